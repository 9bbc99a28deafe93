/- Contracts and lemmas (nothing is claimed here). -/
import Derived.Test.YtfhpgmlfgjfknaaGreatDoorJ23
import Derived.Shelf.SlSortCmp.Kit1
import Derived.Sort.WalkA
import Derived.Sort.WalkB2
import Derived.Sort.WalkB12
import Derived.Deep.LoopGhost
import Derived.BigRegion
namespace Go.Vf
def aez (D:List Int)(i j:Nat):List Int:=(D.set i (D.getD j 0)).set j (D.getD i 0)
theorem asn (D:List Int)(i j:Nat):((D.toArray.setIfInBounds i D.toArray[j]!).setIfInBounds j D.toArray[i]!)=(aez D i j).toArray:=by
 have e: ∀k,D.toArray[k]! =D.getD k 0:=fun k=>by
  rw[List.getElem!_toArray,List.getD_eq_getElem?_getD,List.getElem!_eq_getElem?_getD];rfl
 rw[e,e,List.setIfInBounds_toArray,List.setIfInBounds_toArray];rfl
theorem aip {P M Q:List Int}{x y:Int}{i j:Nat}(hi:i=P.length)(hj:j=P.length+1+M.length):aez (P++[x]++M++[y]++Q) i j=P++[y]++M++[x]++Q:=by
 subst hi hj
 have e:P++[x]++M++[y]++Q=P++(x::(M++(y::Q))):=by simp
 have gi:(P++(x::(M++(y::Q)))).getD P.length 0=x:=by simp[List.getD_eq_getElem?_getD]
 have gj:(P++(x::(M++(y::Q)))).getD (P.length+1+M.length) 0=y:=by
  rw[List.getD_eq_getElem?_getD,List.getElem?_append_right (by omega),show P.length+1+M.length-P.length=M.length+1 from by omega]
  simp
 unfold aez
 rw[e,gi,gj,List.set_append_right _ _ (Nat.le_refl _),Nat.sub_self,List.set_cons_zero,List.set_append_right _ _ (by omega),show P.length+1+M.length-P.length=M.length+1 from by omega,List.set_cons_succ,List.set_append_right _ _ (Nat.le_refl _),Nat.sub_self,List.set_cons_zero]
 simp
theorem ap6 (D:List Int)(i j:Nat):(aez D i j).length=D.length:=by simp[aez]
def SwapAt (P U M V Q:List Int)(i:Nat)(D:List Int):Prop:=D=P++V.take i++U.drop i++M++U.take i++V.drop i++Q
theorem SwapAt.start {P U M V Q D:List Int}(h:D=P++U++M++V++Q):SwapAt P U M V Q 0 D:=by unfold SwapAt;rw[h];simp
theorem SwapAt.done {P U M V Q D:List Int}{n:Nat}(h:SwapAt P U M V Q n D)(hu:U.length=n)(hv:V.length=n):D=P++V++M++U++Q:=by
 unfold SwapAt at h
 rw[List.take_of_length_le (by omega),List.take_of_length_le (by omega),List.drop_of_length_le (by omega),List.drop_of_length_le (by omega)] at h
 rw[h];simp
theorem SwapAt.step {P U M V Q D:List Int}{n i a b:Nat}(h:SwapAt P U M V Q i D)(hu:U.length=n)(hv:V.length=n)(hi:i<n)(ha:P.length=a)(hb:a+n+M.length=b):SwapAt P U M V Q (i+1) (aez D (a+i) (b+i)):=by
 unfold SwapAt at h⊢
 have hiu:i<U.length:=by omega
 have hiv:i<V.length:=by omega
 have e:D=(P++V.take i)++[U[i]]++(U.drop (i+1)++M++U.take i)++[V[i]]++(V.drop (i+1)++Q):=by
  have e1:=List.drop_eq_getElem_cons hiu
  have e2:=List.drop_eq_getElem_cons hiv
  rw[h]
  generalize U.drop (i+1)=A at e1⊢
  generalize V.drop (i+1)=B at e2⊢
  rw[e1,e2];simp
 rw[e,aip (by rw[List.length_append,List.length_take];omega) (by simp only[List.length_append,List.length_take,List.length_drop];omega),←List.take_append_getElem hiu,←List.take_append_getElem hiv]
 simp
def RotAt (T P X Y Q D:List Int):Prop:=D=P++X++Y++Q∧T=P++Y++X++Q
theorem RotAt.left {T P X Y Q D:List Int}(h:RotAt T P X Y Q D)(j:Nat):
  D=P++X.take j++X.drop j++Y++Q∧RotAt T (P++Y) (X.drop j) (X.take j) Q (P++Y++X.drop j++X.take j++Q):=by
 obtain⟨h1,h2⟩:=h
 have e:=(List.take_append_drop j X).symm
 generalize X.take j=X1 at e⊢
 generalize X.drop j=X2 at e⊢
 exact⟨by rw[h1,e];simp,rfl,by rw[h2,e];simp⟩
theorem RotAt.right {T P X Y Q D:List Int}(h:RotAt T P X Y Q D)(j:Nat):
  D=P++X++Y.take j++Y.drop j++Q∧RotAt T P (Y.drop j) (Y.take j) (X++Q) (P++Y.drop j++Y.take j++X++Q):=by
 obtain⟨h1,h2⟩:=h
 have e:=(List.take_append_drop j Y).symm
 generalize Y.take j=Y1 at e⊢
 generalize Y.drop j=Y2 at e⊢
 exact⟨by rw[h1,e];simp,by simp,by rw[h2,e];simp⟩
end Go.Vf
namespace Go.Proofs.YtfhpgmlfgjfknaaGreatDoor
open Go.Shelf Go.RowKit Go.Lib Go.Sort Go.Vf
def I64 (x:Int):Prop:= -9223372036854775808≤x∧x≤9223372036854775807
theorem afy (D:List Int)(k:Nat):D.toArray[k]! =D.getD k 0:=by
 rw[List.getElem!_toArray,List.getD_eq_getElem?_getD,List.getElem!_eq_getElem?_getD];rfl
theorem ays {D:List Int}{i j:Nat}(hi:i<D.length)(hj:j<D.length){x:Int}(h:x∈aez D i j):x∈D:=by
 unfold aez at h
 rcases List.mem_or_eq_of_mem_set h with h | h
 ·rcases List.mem_or_eq_of_mem_set h with h | h
  ·exact h
  ·rw[h];exact ahl hj
 ·rw[h];exact ahl hi
structure SL (w0:World)(blk off n:Nat)(D:List Int)(W:World):Prop where
 sw:SW (Value.int .i64) w0 blk off D.toArray W
 len:D.length=n
 int: ∀x∈D,I64 x
structure RowN (w0:World)(blk off n:Nat):Prop where
 row: ∃D0:List Int,D0.length=n∧Row1 (Value.int .i64) w0 blk off D0.toArray
variable {w0 W:World}{blk off n:Nat}{D:List Int}
theorem SL.c1 (h:SL w0 blk off n D W)(R:RowN w0 blk off n)(i:Nat)(hi:i<n):W.cell? ⟨blk,off+i,none⟩=some (.int .i64 (D.getD i 0)):=by
 obtain⟨D0,h0,r⟩:=R.row
 have:=h.sw.c1 r (by simp[h.len,h0]) i (by simp[h.len,hi])
 rw[afy] at this
 exact this
theorem SL.f1 (h:SL w0 blk off n D W)(R:RowN w0 blk off n)(i:Nat)(hi:i<n):W.frozen? ⟨blk,off+i,none⟩=false:=by
 obtain⟨D0,h0,r⟩:=R.row
 exact h.sw.f1 r (by simp[h.len,h0]) i (by simp[h.len,hi])
theorem SL.c2 (h:SL w0 blk off n D W)(R:RowN w0 blk off n)(i j:Nat)(hi:i<n)(hj:j<n)(v:Value): ∃u,(W.setCell ⟨blk,off+i,none⟩ v).cell? ⟨blk,off+j,none⟩=some u:=by
 obtain⟨D0,h0,r⟩:=R.row
 exact h.sw.c2 r (by simp[h.len,h0]) i j (by simp[h.len,hi]) (by simp[h.len,hj]) v
theorem SL.drewN (h:SL w0 blk off n D W)(q:Nat):SL w0 blk off n D (W.drewN q):=⟨h.sw.drewN q,h.len,h.int⟩
theorem SL.drew (h:SL w0 blk off n D W):SL w0 blk off n D W.drew:=h.drewN 1
theorem SL.cl (h:SL w0 blk off n D W)(R:RowN w0 blk off n)(i:Nat)(hi:i<n)(q:Nat):(W.drewN q).cell? ⟨blk,off+i,none⟩=some (.int .i64 (D.getD i 0)):=(h.drewN q).c1 R i hi
theorem SL.at (h:SL w0 blk off n D W)(i:Nat)(hi:i<n):I64 (D.getD i 0):=h.int _ (ahl (by rw[h.len];exact hi))
theorem SL.swapped (h:SL w0 blk off n D W)(R:RowN w0 blk off n)(i j:Nat)(hi:i<n)(hj:j<n):
  SL w0 blk off n (aez D i j) ((W.setCell ⟨blk,off+i,none⟩ (.int .i64 (D.getD j 0))).setCell ⟨blk,off+j,none⟩ (.int .i64 (D.getD i 0))).drew:=by
 obtain⟨D0,h0,r⟩:=R.row
 have:=h.sw.swapped r i j (by simp[h.len,hi]) (by simp[h.len,hj])
 unfold swp at this
 rw[asn,afy,afy] at this
 exact⟨this,by rw[ap6];exact h.len,fun x hx=>h.int x (ays (by rw[h.len];exact hi) (by rw[h.len];exact hj) hx)⟩
theorem SL.to {D':List Int}(h:SL w0 blk off n D W)(e:D=D'):SL w0 blk off n D' W:=e▸h
def ahu (key:Int→Int)(x y:Int):Int:=if key x<key y then -1 else if key y<key x then 1 else 0
theorem cmpK_lt {key:Int→Int}{x y:Int}:ahu key x y<0↔key x<key y:=by
 unfold ahu
 split
 ·simp[*]
 ·split<;>simp[*]
def apz (g:Nat)(cb:Array Value)(key:Int→Int)(w0:World)(blk off n:Nat):Prop:=
 ∀W D,SL w0 blk off n D W→ ∀x y,I64 x→I64 y→Calls Tryz.prog g (#[.int .i64 x,.int .i64 y]++cb) W fun e w'=>e=.returned (.int .i64 (ahu key x y))∧ ∃q,w'=W.drewN q
theorem SL.cmp {g:Nat}{cb:Array Value}{key:Int→Int}(h:SL w0 blk off n D W)(hC:apz g cb key w0 blk off n){x y:Int}(hx:I64 x)(hy:I64 y)(q:Nat):
  Calls Tryz.prog g (#[.int .i64 x,.int .i64 y]++cb) (W.drewN q) fun e w'=>e=.returned (.int .i64 (ahu key x y))∧ ∃q',w'=(W.drewN q).drewN q':=hC _ _ (h.drewN q) x y hx hy
set_option maxHeartbeats 4000000 in
set_option maxRecDepth 100000 in
theorem af9 {w0:World}{blk off n:Nat}(R:RowN w0 blk off n)(hn:n<4611686018427387904){T P U M V Q D:List Int}(fv:Value)(cap a b k:Nat)(w:World)
  (S:SL w0 blk off n D w) (hD:D=P++U++M++V++Q) (ha:P.length=a) (hu:U.length=k) (hv:V.length=k) (hb:a+k+M.length=b) (hT:T=P++V++M++U++Q):
  Calls Tryz.prog 179 #[.slice (some ⟨blk,off,none⟩) n cap,.int .i64 a,.int .i64 b,.int .i64 k,fv] w fun e w'=>e=.returned (.tuple #[])∧SL w0 blk off n T w':=by
 have hle:b+k≤n:=by rw[←S.len,hD];simp only[List.length_append];omega
 have S0:Aside (SL w0 blk off n D w):=S
 have H0:Hid (SwapAt P U M V Q 0 D):=SwapAt.start hD
 have HA:Hid (P.length=a):=ha
 have HU:Hid (U.length=k):=hu
 have HV:Hid (V.length=k):=hv
 have HB:Hid (a+k+M.length=b):=hb
 have hab:a+k≤b:=by omega
 have HT:Hid (T=P++V++M++U++Q):=hT
 clear S hD ha hu hv hb hT
 go_enter Tryz.func179,Tryz.ntmps179
 go_wp2
 go_loopg [10] k (fun g1 vi wr=> ∃(i:Nat) (Di:List Int),vi=.int .i64 i∧i≤k∧k-i≤g1∧Aside (SL w0 blk off n Di wr)∧Hid (SwapAt P U M V Q i Di))
 case atStart=>exact⟨0,D,rfl,Nat.zero_le _,by omega,S0,H0⟩
 case round=>
  clear S0 H0
  obtain⟨i,Di,rfl,hik,hg1,S1,H1⟩:=hrel
  by_cases hlt:i<k
  ·have hltz:(i:Int)<(k:Int):=by omega
   go_wp2_with fail
   obtain⟨iN,hiN⟩: ∃q,q=a+i:=⟨_,rfl⟩
   obtain⟨jN,hjN⟩: ∃q,q=b+i:=⟨_,rfl⟩
   have ea:((a:Int)+(i:Int)).toNat=iN:=by omega
   have pa:(0:Int)≤(a:Int)+(i:Int):=by omega
   have ba:(a:Int)+(i:Int)<(n:Int):=by omega
   have ra:IntKind.i64.wrap ((a:Int)+(i:Int))=(a:Int)+(i:Int):=by rw[IntKind.wrap_i64];omega
   have ec:((b:Int)+(i:Int)).toNat=jN:=by omega
   have pc:(0:Int)≤(b:Int)+(i:Int):=by omega
   have bc:(b:Int)+(i:Int)<(n:Int):=by omega
   have rc:IntKind.i64.wrap ((b:Int)+(i:Int))=(b:Int)+(i:Int):=by rw[IntKind.wrap_i64];omega
   obtain⟨x,hx⟩: ∃x,x=Di.getD (a+i) 0:=⟨_,rfl⟩
   obtain⟨y,hy⟩: ∃x,x=Di.getD (b+i) 0:=⟨_,rfl⟩
   have S2:Aside (SL w0 blk off n (aez Di (a+i) (b+i)) ((wr.setCell ⟨blk,off+iN,none⟩ (.int .i64 y)).setCell ⟨blk,off+jN,none⟩ (.int .i64 x)).drew):=by rw[hiN,hjN,hx,hy];exact S1.out.swapped R (a+i) (b+i) (by omega) (by omega)
   have ca:=S1.out.c1 R (a+i) (by omega)
   have cb:=S1.out.c1 R (b+i) (by omega)
   have fa:=S1.out.f1 R (a+i) (by omega)
   have fb:=S1.out.f1 R (b+i) (by omega)
   obtain⟨u,cc⟩:=S1.out.c2 R (a+i) (b+i) (by omega) (by omega) (.int .i64 y)
   rw[←hjN,←hiN] at cc
   rw[←hx,←hiN] at ca
   rw[←hy,←hjN] at cb
   rw[←hiN] at fa
   rw[←hjN] at fb
   have H2:Hid (SwapAt P U M V Q (i+1) (aez Di (a+i) (b+i))):=H1.out.step HU.out HV.out hlt HA.out HB.out
   clear S1 H1 hx hy hiN hjN
   go_wp2_with fail
   go_region
   clear ca cb cc fa fb
   generalize ((wr.setCell ⟨blk,off+iN,none⟩ (.int .i64 y)).setCell ⟨blk,off+jN,none⟩ (.int .i64 x)).drew=w2 at S2⊢
   clear ea ec
   go_wp2
   go_roundg (k-(i+1))
   case measure=>omega
   case rel=>exact⟨i+1,_,by first | rfl | go_num | simp,by omega,Nat.le_refl _,S2,H2⟩
  ·have hltz: ¬(i:Int)<(k:Int):=by omega
   go_wp2
   go_end0
   obtain rfl:i=k:=by omega
   exact⟨rfl,S1.out.to ((H1.out.done HU.out HV.out).trans HT.out.symm)⟩
set_option maxHeartbeats 4000000 in
set_option maxRecDepth 100000 in
theorem anh {w0:World}{blk off n:Nat}(R:RowN w0 blk off n)(hn:n<4611686018427387904){T P0 X0 Y0 Q0 D0:List Int}(fv:Value)(cap a m b:Nat)(w:World)
  (S:SL w0 blk off n D0 w) (hR:RotAt T P0 X0 Y0 Q0 D0) (ha:P0.length=a) (hm:a+X0.length=m) (hb:m+Y0.length=b) (hx:a<m) (hy:m<b):
  Calls Tryz.prog 154 #[.slice (some ⟨blk,off,none⟩) n cap,.int .i64 a,.int .i64 m,.int .i64 b,fv] w fun e w'=>e=.returned (.tuple #[])∧SL w0 blk off n T w':=by
 have hle:b≤n:=by rw[←S.len,hR.1];simp only[List.length_append];omega
 have S0:Aside (SL w0 blk off n D0 w):=S
 have H0:Hid (RotAt T P0 X0 Y0 Q0 D0∧X0.length=m-a∧Y0.length=b-m∧P0.length+(m-a)=m):=⟨hR,by omega,by omega,by omega⟩
 clear S hR ha hm hb
 have z1:(m:Int)-(a:Int)=((m-a:Nat):Int):=by omega
 have z2:(b:Int)-(m:Int)=((b-m:Nat):Int):=by omega
 go_enter Tryz.func154,Tryz.ntmps154
 go_wp2
 go_loopg [10,11] (b-a) (fun g1 vi vj wr=> ∃(i j:Nat) (P X Y Q D:List Int),vi=.int .i64 i∧vj=.int .i64 j∧0<i∧0<j∧i≤m∧m+j≤n∧i+j≤g1∧Aside (SL w0 blk off n D wr)∧Hid (RotAt T P X Y Q D∧X.length=i∧Y.length=j∧P.length+i=m))
 case atStart=>exact⟨m-a,b-m,P0,X0,Y0,Q0,D0,by first | rfl | rw[z1],by first | rfl | rw[z2],by omega,by omega,by omega,by omega,by omega,S0,H0⟩
 case round=>
  clear S0 H0 z1 z2
  obtain⟨i,j,P,X,Y,Q,D,rfl,rfl,hi0,hj0,him,hjn,hg1,S1,H1⟩:=hrel
  obtain⟨p,hp⟩: ∃p,p+i=m:=⟨m-i,by omega⟩
  have ep:(m:Int)-(i:Int)=(p:Int):=by omega
  by_cases hne:i=j
  ·have hz:(i:Int)=(j:Int):=by omega
   have hS:=af9 R hn (T:=T) (P:=P) (U:=X) (M:=[]) (V:=Y) (Q:=Q) fv cap p m i wr S1.out (by rw[H1.out.1.1];simp) (by have:=H1.out;omega) H1.out.2.1 (by have:=H1.out;omega) (by simp;omega) (by rw[H1.out.1.2];simp)
   subst hne
   clear S1 H1 hz
   go_wp2_with fail
   refine hS.mono ?_
   rintro e w2 ⟨rfl,S2⟩
   go_wp2
   go_end0
   exact⟨rfl,S2⟩
  ·have hz: ¬(i:Int)=(j:Int):=by omega
   by_cases hgt:j<i
   ·have hgz:(j:Int)<(i:Int):=by omega
    obtain⟨h1,h2⟩:=H1.out.1.left j
    have hS:=af9 R hn (T:=P++Y++X.drop j++X.take j++Q) (P:=P) (U:=X.take j) (M:=X.drop j) (V:=Y) (Q:=Q) fv cap p m j wr S1.out h1 (by have:=H1.out;omega) (by rw[List.length_take];have:=H1.out;omega) H1.out.2.2.1 (by rw[List.length_drop];have:=H1.out;omega) rfl
    have H2:Hid (RotAt T (P++Y) (X.drop j) (X.take j) Q (P++Y++X.drop j++X.take j++Q)∧(X.drop j).length=i-j∧(X.take j).length=j∧(P++Y).length+(i-j)=m):=⟨h2,by rw[List.length_drop];have:=H1.out;omega,by rw[List.length_take];have:=H1.out;omega,by rw[List.length_append];have:=H1.out;omega⟩
    generalize P++Y++X.drop j++X.take j++Q=D2 at hS H2
    clear S1 H1 h1 h2
    go_wp2_with fail
    refine hS.mono ?_
    rintro e w2 ⟨rfl,S2⟩
    have S2:Aside _:=S2
    clear hS
    go_wp2
    go_roundg (i-j+j)
    case measure=>omega
    case rel=>exact⟨i-j,j,_,_,_,_,D2,by first | rfl | (congr 1;omega),rfl,by omega,hj0,by omega,hjn,Nat.le_refl _,S2,H2⟩
   ·have hgz: ¬(j:Int)<(i:Int):=by omega
    obtain⟨q,hq⟩: ∃q,q+i=m+j:=⟨m+j-i,by omega⟩
    have eq:(m:Int)+(j:Int)-(i:Int)=(q:Int):=by omega
    obtain⟨h1,h2⟩:=H1.out.1.right (j-i)
    have hS:=af9 R hn (T:=P++Y.drop (j-i)++Y.take (j-i)++X++Q) (P:=P) (U:=X) (M:=Y.take (j-i)) (V:=Y.drop (j-i)) (Q:=Q) fv cap p q i wr S1.out h1 (by have:=H1.out;omega) H1.out.2.1 (by rw[List.length_drop];have:=H1.out;omega) (by rw[List.length_take];have:=H1.out;omega) rfl
    have H2:Hid (RotAt T P (Y.drop (j-i)) (Y.take (j-i)) (X++Q) (P++Y.drop (j-i)++Y.take (j-i)++X++Q)∧(Y.drop (j-i)).length=i∧(Y.take (j-i)).length=j-i∧P.length+i=m):=⟨h2,by rw[List.length_drop];have:=H1.out;omega,by rw[List.length_take];have:=H1.out;omega,H1.out.2.2.2⟩
    generalize P++Y.drop (j-i)++Y.take (j-i)++X++Q=D2 at hS H2
    clear S1 H1 h1 h2
    go_wp2_with fail
    refine hS.mono ?_
    rintro e w2 ⟨rfl,S2⟩
    have S2:Aside _:=S2
    clear hS
    go_wp2
    go_roundg (i+(j-i))
    case measure=>omega
    case rel=>exact⟨i,j-i,_,_,_,_,D2,rfl,by first | rfl | (congr 1;omega),hi0,by omega,him,by omega,Nat.le_refl _,S2,H2⟩
end Go.Proofs.YtfhpgmlfgjfknaaGreatDoor
namespace Go.Vf
theorem ana {D:List Int}{i j:Nat}(h:i≠j):aez D i j=aez D j i:=by
 unfold aez
 rw[List.set_comm _ _ h]
def InsO (key:Int→Int)(P A Q:List Int)(a b i:Nat)(D:List Int):Prop:= ∃S R,D=P++S++R++Q∧a+S.length=min i b∧SortedK key S∧AlikeK key A (S++R)∧(S++R).length=A.length
def InsI (key:Int→Int)(P A Q:List Int)(a i j:Nat)(D:List Int):Prop:= ∃U x V R,D=P++U++[x]++V++R++Q∧a+U.length=j∧a+U.length+V.length=i∧SortedK key (U++V)∧(∀v∈V,key x<key v)∧AlikeK key A (U++[x]++V++R)∧(U++[x]++V++R).length=A.length
theorem InsO.start {key:Int→Int}{P A Q D:List Int}{a b:Nat}(hD:D=P++A++Q)(hb:a+A.length=b):InsO key P A Q a b (a+1) D:=by
 cases A with
 | nil=>exact⟨[],[],by simpa using hD,by simp at hb⊢;omega,SortedK.nil,AlikeK.refl _,rfl⟩
 | cons x t=>exact⟨[x],t,by simpa using hD,by simp at hb⊢;omega,SortedK.one,by simpa using AlikeK.refl _,by simp⟩
theorem InsO.done {key:Int→Int}{P A Q D:List Int}{a b i:Nat}(h:InsO key P A Q a b i D)(hb:a+A.length=b)(hi:b≤i): ∃C,D=P++C++Q∧SortedK key C∧AlikeK key A C:=by
 obtain⟨S,R,h1,h2,h3,h4,h5⟩:=h
 have hR:R=[]:=List.length_eq_zero_iff.1 (by rw[List.length_append] at h5;omega)
 subst hR
 exact⟨S,by simpa using h1,h3,by simpa using h4⟩
theorem InsO.enter {key:Int→Int}{P A Q D:List Int}{a b i:Nat}(h:InsO key P A Q a b i D)(hb:a+A.length=b)(hi:i<b):InsI key P A Q a i i D:=by
 obtain⟨S,R,h1,h2,h3,h4,h5⟩:=h
 cases R with
 | nil=>exfalso;simp at h5;omega
 | cons x t=>exact⟨S,x,[],t,by simpa using h1,by omega,by simp;omega,by simpa using h3,by simp,by simpa using h4,by simpa using h5⟩
theorem InsI.stop0 {key:Int→Int}{P A Q D:List Int}{a b i:Nat}(h:InsI key P A Q a i a D)(hi:i<b):InsO key P A Q a b (i+1) D:=by
 obtain⟨U,x,V,R,h1,h2,h3,h4,h5,h6,h7⟩:=h
 have hU:U=[]:=List.length_eq_zero_iff.1 (by omega)
 subst hU
 refine⟨[x]++V,R,by simpa using h1,by simp at h3⊢;omega,?_,by simpa using h6,by simpa using h7⟩
 simpa using alw (U:=[]) (by simpa using h4) h5 (by simp)
theorem InsI.at {key:Int→Int}{P A Q D:List Int}{a i j:Nat}(h:InsI key P A Q a i j D)(ha:P.length=a)(hj:a<j): ∃U x y V R,D=P++(U++[y])++[x]++V++R++Q∧a+(U++[y]).length=j∧a+(U++[y]).length+V.length=i∧SortedK key ((U++[y])++V)∧(∀v∈V,key x<key v)∧AlikeK key A ((U++[y])++[x]++V++R)∧((U++[y])++[x]++V++R).length=A.length∧D.getD j 0=x∧D.getD (j-1) 0=y:=by
 obtain⟨U,x,V,R,h1,h2,h3,h4,h5,h6,h7⟩:=h
 have hne:U≠ []:=fun e=>by subst e;simp at h2;omega
 obtain⟨U',y,rfl⟩: ∃U' y,U=U'++[y]:=⟨U.dropLast,U.getLast hne,(List.dropLast_concat_getLast hne).symm⟩
 refine⟨U',x,y,V,R,h1,h2,h3,h4,h5,h6,h7,?_,?_⟩
 ·have e:D=(P++(U'++[y]))++[x]++(V++R++Q):=by rw[h1];simp
  rw[e,acy (by rw[List.length_append];omega) (by rw[List.length_append];simp;simp at h2;omega),List.length_append,show j-(P.length+(U'++[y]).length)=0 from by omega];rfl
 ·rw[List.length_append,List.length_singleton] at h2
  have e:D=(P++U')++[y]++([x]++V++R++Q):=by rw[h1];simp
  rw[e,acy (by rw[List.length_append];omega) (by rw[List.length_append,List.length_singleton];omega),List.length_append,show j-1-(P.length+U'.length)=0 from by omega];rfl
theorem InsI.stop {key:Int→Int}{P A Q D:List Int}{a b i j:Nat}(h:InsI key P A Q a i j D)(ha:P.length=a)(hj:a<j)(hi:i<b)(hk: ¬key (D.getD j 0)<key (D.getD (j-1) 0)):InsO key P A Q a b (i+1) D:=by
 obtain⟨U,x,y,V,R,h1,h2,h3,h4,h5,h6,h7,e1,e2⟩:=h.at ha hj
 rw[e1,e2] at hk
 refine⟨(U++[y])++[x]++V,R,by rw[h1];simp,by simp at h2 h3⊢;omega,?_,by simpa using h6,by simpa using h7⟩
 refine alw h4 h5 ?_
 intro u hu
 rcases List.mem_append.1 hu with hu | hu
 ·have:=(SortedK.left h4).across u hu y (by simp)
  omega
 ·rw[List.mem_singleton] at hu;rw[hu];omega
theorem InsI.go {key:Int→Int}{P A Q D:List Int}{a i j:Nat}(h:InsI key P A Q a i j D)(ha:P.length=a)(hj:a<j)(hk:key (D.getD j 0)<key (D.getD (j-1) 0)):InsI key P A Q a i (j-1) (aez D j (j-1)):=by
 obtain⟨U,x,y,V,R,h1,h2,h3,h4,h5,h6,h7,e1,e2⟩:=h.at ha hj
 rw[e1,e2] at hk
 obtain⟨g1,g2,g3⟩:=atz (U:=U) (V:=V) h4 h5 hk
 rw[List.length_append,List.length_singleton] at h2 h3
 refine⟨U,x,[y]++V,R,?_,by omega,by simp;omega,g2,g1,?_,by simp at h7⊢;omega⟩
 ·have e:D=(P++U)++[y]++[]++[x]++(V++R++Q):=by rw[h1];simp
  rw[ana (by omega),e,aip (by rw[List.length_append];omega) (by rw[List.length_append];simp;omega)]
  simp
 ·exact h6.trans (AlikeK.append g3 (AlikeK.refl _))
end Go.Vf
namespace Go.Proofs.YtfhpgmlfgjfknaaGreatDoor
open Go.Shelf Go.RowKit Go.Lib Go.Sort Go.Vf
def aco (key:Int→Int)(w0:World)(blk off n:Nat)(P A Q:List Int)(e:Ending)(w':World):Prop:=e=.returned (.tuple #[])∧ ∃C,SL w0 blk off n (P++C++Q) w'∧SortedK key C∧AlikeK key A C
set_option maxHeartbeats 4000000 in
set_option maxRecDepth 100000 in
theorem apl {w0:World}{blk off n:Nat}(R:RowN w0 blk off n)(hn:n<4611686018427387904){g:Nat}{cb:Array Value}{key:Int→Int}(eg: ∀args w,(callFunc g args).run Tryz.prog w=.ok (.enter g args) w)(hC:apz g cb key w0 blk off n){P A Q D:List Int}(cap a b:Nat)(w:World)
  (S:SL w0 blk off n D w) (hD:D=P++A++Q) (ha:P.length=a) (hb:a+A.length=b):
  Calls Tryz.prog 117 #[.slice (some ⟨blk,off,none⟩) n cap,.int .i64 a,.int .i64 b,.func (.func g) #[] cb] w fun e w'=>aco key w0 blk off n P A Q e w':=by
 have hle:b≤n:=by rw[←S.len,hD];simp only[List.length_append];omega
 have hab:a≤b:=by omega
 have S0:Aside (SL w0 blk off n D w):=S
 have H0:Hid (InsO key P A Q a b (a+1) D):=InsO.start hD hb
 have HA:Hid (P.length=a):=ha
 have HB:Hid (a+A.length=b):=hb
 have HC:Aside _:=hC
 clear S hD ha hb hC
 go_enter Tryz.func117,Tryz.ntmps117
 go_wp2
 go_loopg [8] (b-a) (fun g1 vi wr=> ∃(i:Nat) (Di:List Int),vi=.int .i64 i∧a<i∧i≤b+1∧b+1-i≤g1+1∧Aside (SL w0 blk off n Di wr)∧Hid (InsO key P A Q a b i Di))
 case atStart=>exact⟨a+1,D,by go_num,by omega,by omega,by omega,S0,H0⟩
 case round=>
  clear S0 H0
  obtain⟨i,Di,rfl,hai,hib,hg1,S1,H1⟩:=hrel
  by_cases hlt:i<b
  ·have hltz:(i:Int)<(b:Int):=by omega
   go_wp2
   go_loopg [9] i (fun g2 vj wr2=> ∃(j:Nat) (Dj:List Int),vj=.int .i64 j∧a≤j∧j≤i∧j≤g2∧Aside (SL w0 blk off n Dj wr2)∧Hid (InsI key P A Q a i j Dj))
   case atStart=>exact⟨i,Di,rfl,by omega,Nat.le_refl _,Nat.le_refl _,S1,H1.out.enter HB.out hlt⟩
   case round=>
    clear S1 H1
    obtain⟨j,Dj,rfl,haj,hji,hg2,SJ,HI⟩:=hrel
    by_cases hja:a<j
    ·have hjaz:(a:Int)<(j:Int):=by omega
     obtain⟨jp,hjp⟩: ∃q,q+1=j:=⟨j-1,by omega⟩
     have zjp:(j:Int)=(jp:Int)+1:=by omega
     have hjad:decide ((jp:Int)+1>(a:Int))=true:=decide_eq_true (by omega)
     have hjaz':(a:Int)<(jp:Int)+1:=by omega
     obtain⟨iN,hiN⟩: ∃q,q=j:=⟨_,rfl⟩
     obtain⟨jN,hjN⟩: ∃q,q=j-1:=⟨_,rfl⟩
     have ea:((jp:Int)+1).toNat=iN:=by omega
     have pa:(0:Int)≤(jp:Int)+1:=by omega
     have ba:(jp:Int)+1<(n:Int):=by omega
     have ra:IntKind.i64.wrap ((jp:Int)+1)=(jp:Int)+1:=by rw[IntKind.wrap_i64];omega
     have ec:((jp:Int)).toNat=jN:=by omega
     have pc:(0:Int)≤(jp:Int):=by omega
     have bc:(jp:Int)<(n:Int):=by omega
     have rc:IntKind.i64.wrap ((jp:Int))=(jp:Int):=by rw[IntKind.wrap_i64];omega
     obtain⟨x,hx⟩: ∃x,x=Dj.getD j 0:=⟨_,rfl⟩
     obtain⟨y,hy⟩: ∃x,x=Dj.getD (j-1) 0:=⟨_,rfl⟩
     have la:=SJ.out.cl R j (by omega)
     have lb:=SJ.out.cl R (j-1) (by omega)
     rw[←hx,←hiN] at la
     rw[←hy,←hjN] at lb
     have hc:=SJ.out.cmp HC.out (x:=x) (y:=y) (by rw[hx];exact SJ.out.at j (by omega)) (by rw[hy];exact SJ.out.at (j-1) (by omega))
     by_cases hk:key x<key y
     ·have hv:ahu key x y<0:=cmpK_lt.2 hk
      have hd:decide (ahu key x y<0)=true:=decide_eq_true hv
      have HG:Hid (InsI key P A Q a i (j-1) (aez Dj j (j-1))):=HI.out.go HA.out hja (by rw[←hx,←hy];exact hk)
      have HX:Hid (x=Dj.getD j 0∧y=Dj.getD (j-1) 0∧iN=j∧jN=j-1):=⟨hx,hy,hiN,hjN⟩
      clear hx hy hiN hjN HI hk
      go_wp2_with fail
      go_quiet (first | (go_at_fn g;refine Calls.quiet_of (hc _)))
      have S2:Aside (SL w0 blk off n Dj (wr.drewN nq)):=SJ.out.drewN nq
      clear la lb hc SJ
      generalize wr.drewN nq=w2 at S2⊢
      clear nq
      go_wp2_with fail
      have S3:Aside (SL w0 blk off n (aez Dj j (j-1)) ((w2.setCell ⟨blk,off+iN,none⟩ (.int .i64 y)).setCell ⟨blk,off+jN,none⟩ (.int .i64 x)).drew):=by
       obtain⟨e1,e2,e3,e4⟩:=HX.out
       rw[e1,e2,e3,e4];exact S2.out.swapped R j (j-1) (by omega) (by omega)
      obtain⟨e1,e2,e3,e4⟩:=HX.out
      have ca:w2.cell? ⟨blk,off+iN,none⟩=some (.int .i64 x):=by rw[e1,e3];exact S2.out.c1 R j (by omega)
      have cb':w2.cell? ⟨blk,off+jN,none⟩=some (.int .i64 y):=by rw[e2,e4];exact S2.out.c1 R (j-1) (by omega)
      have fa:w2.frozen? ⟨blk,off+iN,none⟩=false:=by rw[e3];exact S2.out.f1 R j (by omega)
      have fb:w2.frozen? ⟨blk,off+jN,none⟩=false:=by rw[e4];exact S2.out.f1 R (j-1) (by omega)
      obtain⟨u,cc⟩: ∃u,(w2.setCell ⟨blk,off+iN,none⟩ (.int .i64 y)).cell? ⟨blk,off+jN,none⟩=some u:=by rw[e3,e4];exact S2.out.c2 R j (j-1) (by omega) (by omega) (.int .i64 y)
      clear e1 e2 e3 e4
      clear S2 HX
      go_wp2_with fail
      go_region
      clear ca cb' cc fa fb
      generalize ((w2.setCell ⟨blk,off+iN,none⟩ (.int .i64 y)).setCell ⟨blk,off+jN,none⟩ (.int .i64 x)).drew=w3 at S3⊢
      clear ea ec
      go_wp2
      go_roundg (j-1)
      case measure=>omega
      case rel=>exact⟨j-1,_,by first | rfl | go_num | (congr 1;omega),by omega,by omega,Nat.le_refl _,S3,HG⟩
     ·have hv: ¬ahu key x y<0:=fun h=>hk (cmpK_lt.1 h)
      have hd:decide (ahu key x y<0)=false:=decide_eq_false hv
      have HG:Hid (InsO key P A Q a b (i+1) Dj):=HI.out.stop HA.out hja hlt (by rw[←hx,←hy];exact hk)
      clear hx hy hiN hjN HI hk
      go_wp2_with fail
      go_quiet (first | (go_at_fn g;refine Calls.quiet_of (hc _)))
      have S2:Aside (SL w0 blk off n Dj (wr.drewN nq)):=SJ.out.drewN nq
      clear la lb hc SJ
      generalize wr.drewN nq=w2 at S2⊢
      clear nq
      clear ea ec
      go_wp2
      go_roundg (b-(i+1))
      case measure=>omega
      case rel=>exact⟨i+1,Dj,by go_num,by omega,by omega,by omega,S2,HG⟩
    ·have hjaz:decide ((j:Int)>(a:Int))=false:=decide_eq_false (by omega)
     have hjaz': ¬(a:Int)<(j:Int):=by omega
     have HG:Hid (InsO key P A Q a b (i+1) Dj):=by
      obtain rfl:j=a:=by omega
      exact HI.out.stop0 hlt
     clear HI
     go_wp2_with fail
     go_region
     have S2:Aside (SL w0 blk off n Dj wr.drew):=SJ.out.drew
     clear SJ
     generalize wr.drew=w2 at S2⊢
     go_wp2
     go_roundg (b-(i+1))
     case measure=>omega
     case rel=>exact⟨i+1,Dj,by go_num,by omega,by omega,by omega,S2,HG⟩
  ·have hltz: ¬(i:Int)<(b:Int):=by omega
   go_wp2
   go_end0
   obtain⟨C,h1,h2,h3⟩:=H1.out.done HB.out (by omega)
   exact⟨rfl,C,S1.out.to h1,h2,h3⟩
end Go.Proofs.YtfhpgmlfgjfknaaGreatDoor
