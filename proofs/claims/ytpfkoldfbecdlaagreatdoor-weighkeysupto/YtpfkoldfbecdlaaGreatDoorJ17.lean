/- Contracts and lemmas (nothing is claimed here). -/
import Derived.Test.YtpfkoldfbecdlaaGreatDoorSortD
import Derived.Test.YtpfkoldfbecdlaaGreatDoorJ14
import Derived.Deep.Cut
import Derived.Test.YtpfkoldfbecdlaaGreatDoorJ4
namespace Go.Vf
structure StepA (key:Int→Int)(D0 D:List Int)(a:Nat)(Bs:List (List Int))(X:List Int):Prop where
 is:D=Bs.flatten++X
 each: ∀B∈Bs,B.length=20∧SortedK key B
 len:Bs.flatten.length=a
 al:AlikeK key D0 D
structure StepB (key:Int→Int)(D0 D:List Int)(bs a:Nat)(Ds Bs:List (List Int))(X:List Int):Prop where
 is:D=Ds.flatten++Bs.flatten++X
 eachD: ∀B∈Ds,B.length=2*bs∧SortedK key B
 each: ∀B∈Bs,B.length=bs∧SortedK key B
 less:X.length<bs
 rest:SortedK key X
 len:Ds.flatten.length=a
 al:AlikeK key D0 D
theorem StepA.start {key:Int→Int}{D0:List Int}:StepA key D0 D0 0 [] D0:=⟨by simp,by simp,rfl,AlikeK.refl _⟩
theorem ae0 {Bs:List (List Int)}{C:List Int}:(Bs++[C]).flatten=Bs.flatten++C:=by simp
theorem StepA.next {key:Int→Int}{D0 D:List Int}{a:Nat}{Bs:List (List Int)}{X C:List Int}(h:StepA key D0 D a Bs X)(hs:SortedK key C)(ha:AlikeK key (X.take 20) C)(hl:C.length=20):StepA key D0 (Bs.flatten++C++X.drop 20) (a+20) (Bs++[C]) (X.drop 20):=by
 refine⟨by rw[ae0],?_,by rw[ae0,List.length_append,h.len,hl],?_⟩
 ·intro B hB
  rcases List.mem_append.1 hB with hB | hB
  ·exact h.each B hB
  ·rw[List.mem_singleton] at hB;rw[hB];exact⟨hl,hs⟩
 ·refine h.al.trans ?_
  rw[h.is,List.append_assoc]
  refine AlikeK.append (AlikeK.refl _) ?_
  have e:=(List.take_append_drop 20 X).symm
  generalize X.drop 20=Y at e⊢
  rw[e]
  exact AlikeK.append ha (AlikeK.refl _)
theorem StepA.done {key:Int→Int}{D0 D:List Int}{a:Nat}{Bs:List (List Int)}{X C:List Int}(h:StepA key D0 D a Bs X)(hx:X.length<20)(hs:SortedK key C)(ha:AlikeK key X C)(hl:C.length=X.length):StepB key D0 (Bs.flatten++C) 20 0 [] Bs C:=by
 refine⟨by simp,by simp,h.each,by omega,hs,rfl,?_⟩
 refine h.al.trans ?_
 rw[h.is]
 exact AlikeK.append (AlikeK.refl _) ha
theorem StepB.pair {key:Int→Int}{D0 D:List Int}{bs a:Nat}{Ds Bs:List (List Int)}{X:List Int}(h:StepB key D0 D bs a Ds Bs X)(hn:a+2*bs≤D.length): ∃B1 B2 Bs',Bs=B1::B2::Bs'∧B1.length=bs∧B2.length=bs∧SortedK key B1∧SortedK key B2:=by
 have e:D.length=a+Bs.flatten.length+X.length:=by rw[h.is,List.length_append,List.length_append,h.len]
 rw[ag1 h.each] at e
 have hx:=h.less
 rcases Bs with _ | ⟨B1,_ | ⟨B2,Bs⟩⟩
 ·exfalso;simp at e;omega
 ·exfalso;simp at e;omega
 ·exact⟨B1,B2,Bs,rfl,(h.each B1 (by simp)).1,(h.each B2 (by simp)).1,(h.each B1 (by simp)).2,(h.each B2 (by simp)).2⟩
theorem StepB.next {key:Int→Int}{D0 D:List Int}{bs a:Nat}{Ds Bs:List (List Int)}{X B1 B2 C:List Int}(h:StepB key D0 D bs a Ds (B1::B2::Bs) X)(hs:SortedK key C)(ha:AlikeK key (B1++B2) C)(hl:C.length=2*bs):StepB key D0 (Ds.flatten++C++(Bs.flatten++X)) bs (a+2*bs) (Ds++[C]) Bs X:=by
 refine⟨by rw[ae0,List.append_assoc (Ds.flatten++C)],?_,fun B hB=>h.each B (by simp[hB]),h.less,h.rest,by rw[ae0,List.length_append,h.len,hl],?_⟩
 ·intro B hB
  rcases List.mem_append.1 hB with hB | hB
  ·exact h.eachD B hB
  ·rw[List.mem_singleton] at hB;rw[hB];exact⟨hl,hs⟩
 ·refine h.al.trans ?_
  have e:D=Ds.flatten++(B1++B2)++(Bs.flatten++X):=by rw[h.is];simp
  rw[e]
  exact AlikeK.append (AlikeK.append (AlikeK.refl _) ha) (AlikeK.refl _)
theorem StepB.last {key:Int→Int}{D0 D:List Int}{bs a:Nat}{Ds Bs:List (List Int)}{X:List Int}(h:StepB key D0 D bs a Ds Bs X)(hn: ¬a+2*bs≤D.length)(hm:a+bs<D.length): ∃B1,Bs=[B1]∧B1.length=bs∧SortedK key B1∧X≠ []:=by
 have e:D.length=a+Bs.flatten.length+X.length:=by rw[h.is,List.length_append,List.length_append,h.len]
 rw[ag1 h.each] at e
 have hx:=h.less
 rcases Bs with _ | ⟨B1,_ | ⟨B2,Bs⟩⟩
 ·exfalso;simp at e;omega
 ·refine⟨B1,rfl,(h.each B1 (by simp)).1,(h.each B1 (by simp)).2,fun e'=> ?_⟩
  subst e';simp at e;omega
 ·exfalso
  simp only[List.length_cons] at e
  have:2*bs≤(Bs.length+1+1)*bs:=Nat.mul_le_mul_right _ (by omega)
  omega
theorem StepB.turn {key:Int→Int}{D0 D:List Int}{bs a:Nat}{Ds:List (List Int)}{X B1 C:List Int}(h:StepB key D0 D bs a Ds [B1] X)(hb:B1.length=bs)(hs:SortedK key C)(ha:AlikeK key (B1++X) C)(hl:C.length=(B1++X).length):StepB key D0 (Ds.flatten++C) (2*bs) 0 [] Ds C:=by
 have hx:=h.less
 refine⟨by simp,by simp,h.eachD,by rw[hl,List.length_append];omega,hs,rfl,?_⟩
 refine h.al.trans ?_
 have e:D=Ds.flatten++(B1++X):=by rw[h.is];simp
 rw[e]
 exact AlikeK.append (AlikeK.refl _) ha
theorem StepB.over {key:Int→Int}{D0 D:List Int}{bs a:Nat}{Ds Bs:List (List Int)}{X:List Int}(h:StepB key D0 D bs a Ds Bs X)(hm: ¬a+bs<D.length): ∃C,StepB key D0 D (2*bs) 0 [] Ds C:=by
 have e:D.length=a+Bs.flatten.length+X.length:=by rw[h.is,List.length_append,List.length_append,h.len]
 rw[ag1 h.each] at e
 have hx:=h.less
 rcases Bs with _ | ⟨B1,_ | ⟨B2,Bs⟩⟩
 ·exact⟨X,by rw[h.is];simp,by simp,h.eachD,by omega,h.rest,rfl,h.al⟩
 ·have hX:X=[]:=List.length_eq_zero_iff.1 (by simp at e;omega)
  subst hX
  have h1:=h.each B1 (by simp)
  exact⟨B1,by rw[h.is];simp,by simp,h.eachD,by omega,h1.2,rfl,h.al⟩
 ·exfalso
  simp only[List.length_cons] at e
  have:2*bs≤(Bs.length+1+1)*bs:=Nat.mul_le_mul_right _ (by omega)
  omega
theorem StepB.end {key:Int→Int}{D0 D:List Int}{bs:Nat}{Bs:List (List Int)}{X:List Int}(h:StepB key D0 D bs 0 [] Bs X)(hn:D.length≤bs):SortedK key D∧AlikeK key D0 D:=
 ⟨Blocks.done (Bs:=Bs) (R:=X) ⟨by rw[h.is];simp,h.each,h.less,h.rest⟩ hn,h.al⟩
end Go.Vf
namespace Go.Proofs.YtpfkoldfbecdlaaGreatDoor
open Go.Shelf Go.RowKit Go.Lib Go.Sort Go.Vf
def StablePost (key:Int→Int)(w0:World)(blk off n:Nat)(D0:List Int)(e:Ending)(w':World):Prop:=e=.returned (.tuple #[])∧ ∃C,SL w0 blk off n C w'∧SortedK key C∧AlikeK key D0 C
theorem SL.piece {w0 W:World}{blk off n:Nat}{D:List Int}(h:SL w0 blk off n D W){P A Q C:List Int}{w':World}(hD:D=P++A++Q)(g:SL w0 blk off n (P++C++Q) w'):C.length=A.length:=by
 have h1:=h.len
 have h2:=g.len
 rw[hD] at h1
 simp only[List.length_append] at h1 h2
 omega
set_option maxHeartbeats 16000000 in
set_option maxRecDepth 100000 in
theorem stable_any {w0:World}{blk off n:Nat}(R:RowN w0 blk off n)(hn:n<1152921504606846976){g:Nat}{cb:Array Value}{key:Int→Int}(eg: ∀args w,(callFunc g args).run Tryz.prog w=.ok (.enter g args) w)(hC:CmpOk g cb key w0 blk off n){D0:List Int}(cap:Nat)(w:World)
  (S:SL w0 blk off n D0 w):
  Calls Tryz.prog 172 #[.slice (some ⟨blk,off,none⟩) n cap,.int .i64 n,.func (.func g) #[] cb] w fun e w'=>StablePost key w0 blk off n D0 e w':=by
 have S0:Aside (SL w0 blk off n D0 w):=S
 have H0:Hid (StepA key D0 D0 0 [] D0):=StepA.start
 have hI: ∀(P A Q D:List Int) (a b:Nat) (w:World),SL w0 blk off n D w→D=P++A++Q→P.length=a→a+A.length=b→Calls Tryz.prog 213 #[.slice (some ⟨blk,off,none⟩) n cap,.int .i64 a,.int .i64 b,.func (.func g) #[] cb] w fun e w'=>acn key w0 blk off n P A Q e w':=fun P A Q D a b w h1 h2 h3 h4=>insertion_any R (by omega) eg hC cap a b w h1 h2 h3 h4
 have hY: ∀N,SymSays key w0 blk off n g cb N:=symMerge_any R (by omega) eg hC
 have HI:Aside _:=hI
 have HY:Aside _:=hY
 clear S hI hY hC
 go_enter Tryz.func172,Tryz.ntmps172
 go_wp2
 go_loopg [7,8] n (fun g1 va vb wr=> ∃(a b:Nat) (D:List Int) (Bs:List (List Int)) (X:List Int),va=.int .i64 a∧vb=.int .i64 b∧a≤n∧n-a≤g1∧Hid (b=a+20)∧Aside (SL w0 blk off n D wr)∧Hid (StepA key D0 D a Bs X))
 case atStart=>exact⟨0,20,D0,[],D0,rfl,rfl,Nat.zero_le _,by omega,rfl,S0,H0⟩
 case round=>
  clear S0 H0
  obtain⟨a,b,D,Bs,X,rfl,rfl,han,hg1,HB,S1,H1⟩:=hrel
  have hlen:a+X.length=n:=by
   have h1:=S1.out.len
   rw[H1.out.is,List.length_append,H1.out.len] at h1
   exact h1
  have hb:=HB.out
  by_cases hlt:b≤n
  ·have hltz:(b:Int)≤(n:Int):=by omega
   have hS:=HI.out Bs.flatten (X.take 20) (X.drop 20) D a b wr S1.out (by rw[H1.out.is,List.append_assoc,List.take_append_drop]) H1.out.len (by rw[List.length_take];omega)
   have hP: ∀C w',SL w0 blk off n (Bs.flatten++C++X.drop 20) w'→SortedK key C→AlikeK key (X.take 20) C→StepA key D0 (Bs.flatten++C++X.drop 20) b (Bs++[C]) (X.drop 20):=fun C w' h1 h2 h3=>by
    have:=S1.out.piece (P:=Bs.flatten) (A:=X.take 20) (Q:=X.drop 20) (by rw[H1.out.is,List.append_assoc,List.take_append_drop]) h1
    rw[List.length_take] at this
    rw[hb]
    exact H1.out.next h2 h3 (by omega)
   have HP:Aside _:=hP
   obtain⟨b2,hb2⟩: ∃q,q=b+20:=⟨_,rfl⟩
   have zb2:(b:Int)+20=(b2:Int):=by omega
   have HB2:Hid (b2=b+20):=hb2
   clear hP S1 H1 hlen hb hb2
   go_wp2_with fail
   refine hS.mono ?_
   rintro e w2 ⟨rfl,C,S2,g1,g2⟩
   have H2:Hid (StepA key D0 (Bs.flatten++C++X.drop 20) b (Bs++[C]) (X.drop 20)):=HP.out C w2 S2 g1 g2
   have S2:Aside (SL w0 blk off n (Bs.flatten++C++X.drop 20) w2):=S2
   generalize Bs.flatten++C++X.drop 20=D2 at S2 H2
   clear g1 g2 hS HP
   go_wp2
   go_roundg (n-b)
   case measure=>have:=HB.out;omega
   case rel=>exact⟨b,b2,D2,_,_,rfl,by first | rfl | (congr 1),hlt,Nat.le_refl _,HB2,S2,H2⟩
  ·have hltz: ¬(b:Int)≤(n:Int):=by omega
   have hS:=HI.out Bs.flatten X [] D a n wr S1.out (by rw[H1.out.is];simp) H1.out.len hlen
   have hP: ∀C w',SL w0 blk off n (Bs.flatten++C++[]) w'→SortedK key C→AlikeK key X C→StepB key D0 (Bs.flatten++C++[]) 20 0 [] Bs C:=fun C w' h1 h2 h3=>by
    have:=S1.out.piece (P:=Bs.flatten) (A:=X) (Q:=[]) (by rw[H1.out.is];simp) h1
    rw[List.append_nil]
    exact H1.out.done (by omega) h2 h3 this
   have HP:Aside _:=hP
   clear hP S1 H1 hlen hb
   go_wp2_with fail
   refine hS.mono ?_
   rintro e w2 ⟨rfl,C,S2,g1,g2⟩
   have H2:Hid (StepB key D0 (Bs.flatten++C++[]) 20 0 [] Bs C):=HP.out C w2 S2 g1 g2
   have S2:Aside (SL w0 blk off n (Bs.flatten++C++[]) w2):=S2
   generalize Bs.flatten++C++[]=D2 at S2 H2
   clear g1 g2 hS HP HB
   go_wp2
   go_loopg [6] n (fun g2 vs wr=> ∃(bs:Nat) (D:List Int) (Bs:List (List Int)) (X:List Int),vs=.int .i64 bs∧0<bs∧n-bs≤g2∧Aside (SL w0 blk off n D wr)∧Hid (StepB key D0 D bs 0 [] Bs X))
   case atStart=>exact⟨20,D2,Bs,C,rfl,by omega,by omega,S2,H2⟩
   case round=>
    clear S2 H2
    obtain⟨bs,D,Bs,X,rfl,hbs,hg2,S1,H1⟩:=hrel
    by_cases hlt:bs<n
    ·have hltz:(bs:Int)<(n:Int):=by omega
     obtain⟨b0,hb0⟩: ∃q,q=2*bs:=⟨_,rfl⟩
     have zb0:2*(bs:Int)=(b0:Int):=by omega
     have zb1:(bs:Int)*2=(b0:Int):=by omega
     have hb0n:b0<2*n:=by omega
     have HB0:Hid (b0=2*bs):=hb0
     clear hb0
     go_wp2
     go_loopg [7,8] n (fun g3 va vb wr=> ∃(a b:Nat) (D:List Int) (Ds Bs:List (List Int)) (X:List Int),va=.int .i64 a∧vb=.int .i64 b∧a≤n∧n-a≤g3∧Hid (b=a+2*bs)∧Aside (SL w0 blk off n D wr)∧Hid (StepB key D0 D bs a Ds Bs X))
     case atStart=>exact⟨0,b0,D,[],Bs,X,rfl,rfl,Nat.zero_le _,by omega,by rw[HB0.out];show _=_;omega,S1,H1⟩
     case round=>
      clear S1 H1
      obtain⟨a,b,D,Ds,Bs,X,rfl,rfl,han,hg3,HB,S1,H1⟩:=hrel
      have hDn:=S1.out.len
      have hb:=HB.out
      obtain⟨m,hm⟩: ∃q,q=a+bs:=⟨_,rfl⟩
      have zm:(a:Int)+(bs:Int)=(m:Int):=by omega
      by_cases hle:b≤n
      ·have hlez:(b:Int)≤(n:Int):=by omega
       obtain⟨B1,B2,Bs',rfl,l1,l2,s1,s2⟩:=H1.out.pair (by omega)
       have hD:D=Ds.flatten++B1++B2++(Bs'.flatten++X):=by rw[H1.out.is];simp
       have hS:=HY.out (b-a) Ds.flatten B1 B2 (Bs'.flatten++X) D cap a m b wr (Nat.le_refl _) S1.out hD H1.out.len (by omega) (by omega) (by omega) (by omega) s1 s2
       have hP: ∀C w',SL w0 blk off n (Ds.flatten++C++(Bs'.flatten++X)) w'→SortedK key C→AlikeK key (B1++B2) C→StepB key D0 (Ds.flatten++C++(Bs'.flatten++X)) bs b (Ds++[C]) Bs' X:=fun C w' h1 h2 h3=>by
        have:=S1.out.piece (P:=Ds.flatten) (A:=B1++B2) (Q:=Bs'.flatten++X) (by rw[hD];simp) h1
        rw[List.length_append] at this
        rw[hb]
        exact H1.out.next h2 h3 (by omega)
       have HP:Aside _:=hP
       obtain⟨b2,hb2⟩: ∃q,q=b+2*bs:=⟨_,rfl⟩
       have zb2:(b:Int)+(b0:Int)=(b2:Int):=by have:=HB0.out;omega
       have HB2:Hid (b2=b+2*bs):=hb2
       have hb2n:b2<4*n:=by omega
       clear hP S1 H1 hDn hb hb2 hm hD l1 l2 s1 s2
       go_wp2_with fail
       refine hS.mono ?_
       rintro e w2 ⟨rfl,C,S2,g1,g2⟩
       have H2:Hid (StepB key D0 (Ds.flatten++C++(Bs'.flatten++X)) bs b (Ds++[C]) Bs' X):=HP.out C w2 S2 g1 g2
       have S2:Aside (SL w0 blk off n (Ds.flatten++C++(Bs'.flatten++X)) w2):=S2
       generalize Ds.flatten++C++(Bs'.flatten++X)=D2 at S2 H2
       clear g1 g2 hS HP
       go_wp2
       go_roundg (n-b)
       case measure=>have:=HB.out;omega
       case rel=>exact⟨b,b2,D2,_,_,_,rfl,by first | rfl | (congr 1),hle,Nat.le_refl _,HB2,S2,H2⟩
      ·have hlez: ¬(b:Int)≤(n:Int):=by omega
       by_cases hmn:m<n
       ·have hmnz:(m:Int)<(n:Int):=by omega
        obtain⟨B1,rfl,l1,s1,hX⟩:=H1.out.last (by omega) (by omega)
        have hD:D=Ds.flatten++B1++X++[]:=by rw[H1.out.is];simp
        have hDl:n=a+bs+X.length:=by rw[←hDn,hD];simp only[List.length_append,H1.out.len,l1,List.length_nil];omega
        have hX0:0<X.length:=List.length_pos_iff.2 hX
        have hS:=HY.out (n-a) Ds.flatten B1 X [] D cap a m n wr (Nat.le_refl _) S1.out hD H1.out.len (by omega) (by omega) (by omega) (by omega) s1 H1.out.rest
        have hP: ∀C w',SL w0 blk off n (Ds.flatten++C++[]) w'→SortedK key C→AlikeK key (B1++X) C→StepB key D0 (Ds.flatten++C++[]) b0 0 [] Ds C:=fun C w' h1 h2 h3=>by
         have:=S1.out.piece (P:=Ds.flatten) (A:=B1++X) (Q:=[]) (by rw[hD];simp) h1
         rw[HB0.out,List.append_nil]
         exact H1.out.turn l1 h2 h3 this
        have HP:Aside _:=hP
        clear hP S1 H1 hDn hb hm hD l1 s1 hX hDl hX0
        go_wp2_with fail
        refine hS.mono ?_
        rintro e w2 ⟨rfl,C,S2,g1,g2⟩
        have H2:Hid (StepB key D0 (Ds.flatten++C++[]) b0 0 [] Ds C):=HP.out C w2 S2 g1 g2
        have S2:Aside (SL w0 blk off n (Ds.flatten++C++[]) w2):=S2
        generalize Ds.flatten++C++[]=D2 at S2 H2
        clear g1 g2 hS HP
        go_wp2
        go_roundg (n-b0)
        case measure=>have:=HB0.out;omega
        case rel=>exact⟨b0,D2,_,_,by first | rfl | (congr 1),by have:=HB0.out;omega,Nat.le_refl _,S2,H2⟩
       ·have hmnz: ¬(m:Int)<(n:Int):=by omega
        obtain⟨C,hC2⟩:=H1.out.over (by omega)
        have H2:Hid (StepB key D0 D b0 0 [] Ds C):=by rw[HB0.out];exact hC2
        clear H1 hDn hb hm hC2
        go_wp2
        go_roundg (n-b0)
        case measure=>have:=HB0.out;omega
        case rel=>exact⟨b0,D,_,_,by first | rfl | (congr 1),by have:=HB0.out;omega,Nat.le_refl _,S1,H2⟩
    ·have hltz: ¬(bs:Int)<(n:Int):=by omega
     go_wp2
     go_end0
     exact⟨rfl,D,S1.out,H1.out.end (by rw[S1.out.len];omega)⟩
set_option maxRecDepth 100000 in
theorem sortStable_any {w0:World}{blk off n:Nat}(R:RowN w0 blk off n)(hn:n<1152921504606846976){g:Nat}{cb:Array Value}{key:Int→Int}(eg: ∀args w,(callFunc g args).run Tryz.prog w=.ok (.enter g args) w)(hC:CmpOk g cb key w0 blk off n){D0:List Int}(cap:Nat)(w:World)
  (S:SL w0 blk off n D0 w):
  Calls Tryz.prog 138 #[.slice (some ⟨blk,off,none⟩) n cap,.func (.func g) #[] cb] w fun e w'=>StablePost key w0 blk off n D0 e w':=by
 have h:=stable_any R hn eg hC cap w S
 clear hC S
 go_enter Tryz.func138,Tryz.ntmps138
 go_wp2_with fail
 refine h.mono ?_
 rintro e w' ⟨rfl,h⟩
 go_wp2
 go_end0
 exact⟨rfl,h⟩
end Go.Proofs.YtpfkoldfbecdlaaGreatDoor
namespace Go.Proofs.YtpfkoldfbecdlaaGreatDoor
open Go.RowKit Go.Vf Go.Maps
theorem isNaN_any (x:Int)(w:World):Calls Tryz.prog 161 #[.int .i64 x] w fun e w'=>e=.returned (.bool false)∧w'=w:=by
 go_enter Tryz.func161,Tryz.ntmps161
 go_wp2
 go_ret
 exact⟨rfl,rfl⟩
theorem compare_any (key:Int→Int)(x y:Int)(w:World):Calls Tryz.prog 115 #[.int .i64 (key x),.int .i64 (key y)] w fun e w'=>e=.returned (.int .i64 (ag3 key x y))∧w'=w:=by
 generalize hc:ag3 key x y=c
 have HC:Hid (ag3 key x y=c):=hc
 clear hc
 go_enter Tryz.func115,Tryz.ntmps115
 go_wp2_with fail
 refine(isNaN_any (key x) w).mono ?_
 rintro e w1 ⟨rfl,rfl⟩
 go_wp2_with fail
 refine(isNaN_any (key y) w1).mono ?_
 rintro e w2 ⟨rfl,rfl⟩
 by_cases h1:key x<key y
 ·have E:Hid (c= -1):=by show _=_;rw[←HC.out];unfold ag3;rw[if_pos h1]
  go_wp2
  go_ret
  rw[E.out]
  exact⟨rfl,rfl⟩
 ·by_cases h2:key y<key x
  ·have E:Hid (c=1):=by show _=_;rw[←HC.out];unfold ag3;rw[if_neg h1,if_pos h2]
   go_wp2
   go_ret
   rw[E.out]
   exact⟨rfl,rfl⟩
  ·have E:Hid (c=0):=by show _=_;rw[←HC.out];unfold ag3;rw[if_neg h1,if_neg h2]
   go_wp2
   go_ret
   rw[E.out]
   exact⟨rfl,rfl⟩
theorem abv (w:World)(q:Nat):Below w.heap.size w (w.drewN q):=⟨rfl,rfl,rfl,Nat.le_refl _,fun _ _=>rfl⟩
set_option maxHeartbeats 8000000 in
set_option maxRecDepth 20000 in
theorem byClass_any (bx bd:Nat)(L:List Mk)(E:Int→List Int)(x y:Int)(w:World)(hx:InI x)(hy:InI y)(hb:w.cell? ⟨bx,0,none⟩=some (.pointer (some ⟨bd,0,none⟩)))(hd:DataAt w bd L E):
  Calls Tryz.prog 135 #[.int .i64 x,.int .i64 y,.pointer (some ⟨bx,0,none⟩)] w fun e w'=>e=.returned (.int .i64 (ag3 (aaa L) x y))∧ ∃q,w'=w.drewN q:=by
 have hb': ∀q,(w.drewN q).cell? ⟨bx,0,none⟩=some (.pointer (some ⟨bd,0,none⟩)):=fun q=>hb
 have h1: ∀p q,InI p→Calls Tryz.prog 136 #[.pointer (some ⟨bd,0,none⟩),.int .i64 p] (w.drewN q) fun e w'=>e=.returned (.int .i64 (aaa L p))∧w'=w.drewN q:=fun p q hp=>(class_any bd L E p _ hp (hd.below (abv w q))).mono fun e w' h=>⟨h.1,h.2.symm⟩
 have h3: ∀q,Calls Tryz.prog 115 #[.int .i64 (aaa L x),.int .i64 (aaa L y)] (w.drewN q) fun e w'=>e=.returned (.int .i64 (ag3 (aaa L) x y))∧w'=w.drewN q:=fun q=>compare_any (aaa L) x y _
 generalize ag3 (aaa L) x y=c at h3⊢
 generalize aaa L=K at h1 h3
 clear hd hb
 go_enter Tryz.func135,Tryz.ntmps135
 go_wp2_with fail
 go_quiet (first | (go_at_call 136;exact Calls.quiet_of_same (h1 _ _ (by assumption))) | (go_at_call 115;exact Calls.quiet_of_same (h3 _)))
 go_wp2
 go_ret
 exact⟨rfl,_,rfl⟩
structure RowEnds (cls:Int→Int)(X:List Int)(at0 en:Nat):Prop where
 le:at0≤en
 top:en≤X.length
 none: ∀i,at0≤i→i<en→cls (X.getD i 0)≠0
 stop:en<X.length→cls (X.getD en 0)=0
set_option maxHeartbeats 4000000 in
set_option maxRecDepth 20000 in
theorem rowEnd_any (bd:Nat)(L:List Mk)(E:Int→List Int)(a:Option Addr)(kp cap at0 n₀:Nat)(X:List Int)(w:World)(hX: ∀q∈X,InI q)(hd:DataAt w bd L E)(hin:Ints n₀ w (.slice a kp cap) X)(hkp:kp=X.length)(hkl:kp≤68719476736)(hat:at0≤kp):
  Calls Tryz.prog 137 #[.pointer (some ⟨bd,0,none⟩),.slice a kp cap,.int .i64 at0] w fun e w'=> ∃en:Nat,e=.returned (.int .i64 en)∧RowEnds (aaa L) X at0 en∧w=w':=by
 have HKP:Hid (kp=X.length):=hkp
 have HI:Aside (Ints n₀ w (.slice a kp cap) X):=hin
 have hX':Aside _:=hX
 have hd':Aside _:=hd
 clear hkp hin hX hd
 go_enter Tryz.func137,Tryz.ntmps137
 go_wp2_with fail
 go_loopw [2] (fun i wr=> ∃(k:Nat),k≤kp∧i=.int .i64 k∧at0≤k∧Hid (∀i,at0≤i→i<k→aaa L (X.getD i 0)≠0)∧wr=w) (fun i _=>kp-(intOf i).toNat)
 case atStart=>exact⟨at0,hat,rfl,Nat.le_refl _,fun i h1 h2=>absurd h2 (by omega),rfl⟩
 case round=>
  obtain⟨k,hk,rfl,hak,HK,rfl⟩:=hrel
  by_cases hlt:k<kp
  ·have hltz:(k:Int)<(kp:Int):=by omega
   have hltp:k<X.length:=by rw[←HKP.out];exact hlt
   obtain⟨bp,op,hao,hnk,hblt,hcell⟩:=HI.out.cell (fun e=>by rw[e] at hltp;simp at hltp)
   have hcj:=hcell k hltp
   have hg:X[k]?.getD 0=X.getD k 0:=(List.getD_eq_getElem?_getD ..).symm
   rw[hg] at hcj
   have hqI:=hX'.out _ (agw hltp)
   have hS: ∀c,c=aaa L (X.getD k 0)→c=0→RowEnds (aaa L) X at0 k:=fun c e e0=>⟨hak,by omega,HK.out,fun _=>by rw[←e,e0]⟩
   have hN: ∀c,c=aaa L (X.getD k 0)→c≠0→Hid (∀i,at0≤i→i<k+1→aaa L (X.getD i 0)≠0):=fun c e e0 i h1 h2=>by
    rcases Nat.lt_or_ge i k with h | h
    ·exact HK.out i h1 h
    ·obtain rfl:i=k:=by omega
     rw[←e];exact e0
   have hc:=class_any bd L E (X.getD k 0) wr hqI hd'.out
   generalize X.getD k 0=q at hcj hqI hS hN hc
   generalize aaa L q=c at hS hN hc
   have hS:=hS c rfl
   have hN:=hN c rfl
   have HS:Aside _:=hS
   have HN:Aside _:=hN
   subst hao
   clear hcell hnk hltp hg HK hS hN
   by_cases hc0:c=0
   ·have hfin:=HS.out hc0
    subst hc0
    go_wp2_with fail
    refine hc.mono ?_
    rintro e w1 ⟨rfl,rfl⟩
    go_wp2
    go_ret
    exact⟨k,rfl,hfin,rfl⟩
   ·have hfin:=HN.out hc0
    have hc0':(c==0)=false:=by simpa using hc0
    go_wp2_with fail
    refine hc.mono ?_
    rintro e w1 ⟨rfl,rfl⟩
    go_wp2
    go_roundw
    case rel=>exact⟨k+1,by omega,by simp,by omega,hfin,trivial⟩
    case measure=>simp only[intOf];omega
  ·have hltz: ¬(k:Int)<(kp:Int):=by omega
   have hfin:RowEnds (aaa L) X at0 k:=⟨hak,by rw[←HKP.out];omega,HK.out,fun h=>absurd h (by rw[←HKP.out];omega)⟩
   clear HK
   go_wp2
   go_ret
   exact⟨k,rfl,hfin,rfl⟩
end Go.Proofs.YtpfkoldfbecdlaaGreatDoor
namespace Go.Proofs.YtpfkoldfbecdlaaGreatDoor
open Go.RowKit Go.Vf Go.Maps Go.Shelf Go.Sort Go.Lib
theorem getD_left {P R:List Int}{j:Nat}(h:j<P.length):(P++R).getD j 0=P.getD j 0:=by
 simp only[List.getD_eq_getElem?_getD]
 rw[List.getElem?_append_left h]
theorem afc {P R:List Int}{j:Nat}(h:P.length≤j):(P++R).getD j 0=R.getD (j-P.length) 0:=by
 simp only[List.getD_eq_getElem?_getD]
 rw[List.getElem?_append_right h]
theorem SL.heap {w0 W:World}{g off n:Nat}{D:List Int}{cur:Array Value}{e:TypeId}{fr:Nat×Nat}(h:SL w0 g off n D W)(hb:w0.heap[g]? =some (.cells cur e fr)):W.heap[g]? =some (.cells (putCells (Value.int .i64) off D.toArray cur) e fr):=by
 obtain⟨m,os,rfl⟩:=h.sw
 have hg:g<w0.heap.size:=(Array.getElem?_eq_some_iff.1 hb).1
 unfold sortWorld
 rw[heap_grow_old _ _ (by simpa[size_putRow] using hg)]
 simp[putRow,mapBlock,Sort.ahead,Array.getElem?_modify,hb,onCells]
theorem SL.below {w0 W:World}{g off n B:Nat}{D:List Int}(h:SL w0 g off n D W)(hB:B≤g)(hw:B≤w0.heap.size):Below B w0 W:=by
 have hle:=h.sw.le
 obtain⟨m,os,rfl⟩:=h.sw
 refine⟨rfl,rfl,rfl,hle,fun k hk=> ?_⟩
 unfold sortWorld
 rw[heap_grow_old _ _ (by rw[size_putRow];exact Nat.lt_of_lt_of_le hk hw)]
 have:g≠k:=by omega
 simp[putRow,mapBlock,Sort.ahead,Array.getElem?_modify,this]
theorem SL.own {w0 W:World}{base g cap kp off n:Nat}{X P A Q C:List Int}(h:SL w0 g off n C W)(hX:IOwn w0 base (.slice (some ⟨g,0,none⟩) kp cap) X)(hs:X=P++A++Q)(hp:P.length=off)(ha:A.length=n):IOwn W base (.slice (some ⟨g,0,none⟩) kp cap) (P++C++Q):=by
 obtain⟨h1,h2⟩:=hX
 have hl:(P++C++Q).length=X.length:=by rw[hs];simp only[List.length_append,h.len,ha]
 rcases h2 with ⟨h2,_⟩ | ⟨g',cap',cur,e1,hb,hh,hc1,hc2,hc3,hc4⟩
 ·cases h2
 cases e1
 refine⟨by rw[List.length_map,Nat.mul_one],.inr ⟨g,cap,_,by rw[hl],hb,h.heap hh,by rw[hl];exact hc1,hc2,?_,?_⟩⟩
 ·rw[←hc3];simp[putCells]
 ·rw[Nat.mul_one] at hc4⊢
  rw[hl]
  apply List.ext_getElem?
  intro j
  by_cases hj:j<X.length
  ·have hcj:cur[j]? =some (.int .i64 (X.getD j 0)):=by
    have hx:(X.map (Value.int .i64))[j]? =some (.int .i64 (X.getD j 0)):=by simp[List.getD_eq_getElem?_getD,hj]
    rw[←hc4,List.getElem?_take_of_lt hj,Array.getElem?_toList] at hx
    exact hx
   have hy:((P++C++Q).map (Value.int .i64))[j]? =some (.int .i64 ((P++C++Q).getD j 0)):=by rw[List.getElem?_map];simp only[List.getD_eq_getElem?_getD];rw[List.getElem?_eq_getElem (by omega)];rfl
   rw[hy,List.getElem?_take_of_lt hj,Array.getElem?_toList]
   unfold putCells
   rw[Array.getElem?_mapIdx,hcj,Option.map_some]
   have hlen:=h.len
   by_cases hin:off≤j∧j<off+C.toArray.size
   ·rw[if_pos hin,ae7]
    have h2:j<off+C.length:=by simpa using hin.2
    rw[acv (by omega) (by omega),hp]
   ·rw[if_neg hin]
    have h2: ¬(off≤j∧j<off+C.length):=by simpa using hin
    congr 2
    rw[hs]
    rcases Nat.lt_or_ge j off with c | c
    ·rw[List.append_assoc,List.append_assoc,getD_left (by omega),getD_left (by omega)]
    ·rw[afc (by rw[List.length_append];omega),afc (by rw[List.length_append];omega)]
     congr 1
     simp only[List.length_append]
     omega
  ·rw[List.getElem?_take_eq_none (by omega),List.getElem?_eq_none (by rw[List.length_map];omega)]
theorem InI.i64 {x:Int}(h:InI x):I64 x:=h
theorem I64.inI {x:Int}(h:I64 x):InI x:=h
theorem oneCell_int:OneCell (Value.int .i64):=fun _=>rfl
structure FormAt (cls:Int→Int)(pts X:List Int)(at0:Nat):Prop where
 al:Alike0 cls pts X
 co:CO cls (X.take at0)
 ahead:at0=0∨X.length<at0∨cls (X.getD (at0-1) 0)=0
 top:at0≤X.length+1
 mem: ∀x∈X,x∈pts
 len:X.length=pts.length
theorem FormAt.start {cls:Int→Int}{pts:List Int}:FormAt cls pts pts 0:=⟨Alike0.refl _,by rw[List.take_zero];trivial,.inl rfl,by omega,fun _ h=>h,rfl⟩
theorem FormAt.done {cls:Int→Int}{pts X:List Int}{at0:Nat}(h:FormAt cls pts X at0)(hn:X.length≤at0):FormOf cls pts X:=⟨by have:=h.co;rwa [List.take_of_length_le hn] at this,h.al⟩
theorem three_parts (X:List Int){a b:Nat}(h:a≤b):X=X.take a++(X.drop a).take (b-a)++X.drop b:=by
 have e1:=(List.take_append_drop a X).symm
 have e2:=(List.take_append_drop (b-a) (X.drop a)).symm
 rw[List.drop_drop,show a+(b-a)=b from by omega] at e2
 rw[List.append_assoc,←e2]
 exact e1
theorem getLast_getD {P:List Int}{x:Int}(h:P.getLast? =some x):P≠ []∧P.getD (P.length-1) 0=x:=by
 cases P with
 | nil=>cases h
 | cons y t=>
  refine⟨by simp,?_⟩
  rw[List.getLast?_eq_getElem?] at h
  rw[List.getD_eq_getElem?_getD,h];rfl
theorem FormAt.step {cls:Int→Int}(hc0: ∀x,0≤cls x){pts X C:List Int}{at0 en:Nat}(h:FormAt cls pts X at0)(hat:at0<X.length)(hr:RowEnds cls X at0 en)(hs:SortedK cls C)(ha:AlikeK cls ((X.drop at0).take (en-at0)) C)(hl:C.length=en-at0):
  FormAt cls pts (X.take at0++C++X.drop en) (en+1):=by
 have hX:=three_parts X hr.le
 have hle:=hr.le
 have htop:=hr.top
 have lP:(X.take at0).length=at0:=by rw[List.length_take];omega
 have lA:((X.drop at0).take (en-at0)).length=en-at0:=by rw[List.length_take,List.length_drop];omega
 have lX:(X.take at0++C++X.drop en).length=X.length:=by simp only[List.length_append,lP,hl,List.length_drop];omega
 have hA: ∀x∈(X.drop at0).take (en-at0),cls x≠0:=by
  refine piece_all (P:=X.take at0) (Q:=X.drop en) (fun t h1 h2=> ?_)
  rw[←hX]
  exact hr.none t (by omega) (by omega)
 have hb:CO cls (X.take at0++C):=by
  refine CO.append h.co hs.co (fun x y hx hy _=> ?_)
  obtain⟨hne,e⟩:=getLast_getD hx
  have:cls x=0:=by
   rcases h.ahead with h1 | h1 | h1
   ·exfalso;rw[h1,List.take_zero] at hne;exact hne rfl
   ·omega
   ·rw[lP] at e
    have e2:(X.take at0).getD (at0-1) 0=X.getD (at0-1) 0:=by
     have h0:0<at0:=by
      rcases Nat.eq_zero_or_pos at0 with e0 | e0
      ·rw[e0,List.take_zero] at hne;exact absurd rfl hne
      ·exact e0
     simp only[List.getD_eq_getElem?_getD]
     rw[List.getElem?_take_of_lt (by omega)]
    rw[←e,e2];exact h1
  rw[this];exact hc0 y
 have hPC:(X.take at0++C).length=en:=by rw[List.length_append,lP,hl];omega
 refine⟨?_,?_,?_,by rw[lX];omega,?_,by rw[lX];exact h.len⟩
 ·refine h.al.trans ?_
  have:Alike0 cls (X.take at0++(X.drop at0).take (en-at0)++X.drop en) (X.take at0++C++X.drop en):=Alike0.append (Alike0.append (Alike0.refl _) (ha.alike0 hA)) (Alike0.refl _)
  rwa [←hX] at this
 ·rw[List.take_append,hPC,List.take_of_length_le (by omega),show en+1-en=1 from by omega]
  cases hd:X.drop en with
  | nil=>simpa using hb
  | cons q r=>
   have hlt:en<X.length:=by
    rcases Nat.lt_or_ge en X.length with h1 | h1
    ·exact h1
    ·rw[List.drop_of_length_le h1] at hd;cases hd
   have hq:cls q=0:=by
    have e:=hr.stop hlt
    rw[hX,afc (by rw[List.length_append,lP,lA];omega),List.length_append,lP,lA,show en-(at0+(en-at0))=0 from by omega,hd] at e
    exact e
   refine CO.append hb (by trivial) (fun x y _ hy h0=> ?_)
   simp only[List.take_succ_cons,List.head?_cons,Option.some.injEq] at hy
   rw[←hy] at h0
   exact absurd hq h0
 ·rcases Nat.lt_or_ge en X.length with h1 | h1
  ·refine .inr (.inr ?_)
   rw[show en+1-1=en from by omega,afc (by omega),hPC,Nat.sub_self]
   have e:=hr.stop h1
   rw[hX,afc (by rw[List.length_append,lP,lA];omega),List.length_append,lP,lA,show en-(at0+(en-at0))=0 from by omega] at e
   exact e
  ·exact .inr (.inl (by rw[lX];omega))
 ·intro x hx
  refine h.mem x ?_
  rcases List.mem_append.1 hx with hx | hx
  ·rcases List.mem_append.1 hx with hx | hx
   ·exact List.mem_of_mem_take hx
   ·exact List.mem_of_mem_drop (List.mem_of_mem_take (ha.symm.mem hx))
  ·exact List.mem_of_mem_drop hx
structure FormW (L:List Mk)(E:Int→List Int)(w1:World)(bd bx g kp cc:Nat)(pts X:List Int)(at0:Nat)(wr:World):Prop where
 own:IOwn wr w1.heap.size (.slice (some ⟨g,0,none⟩) kp cc) X
 below:Below w1.heap.size w1 wr
 form:FormAt (aaa L) pts X at0
theorem rows_of_own {w:World}{base g kp cc off n:Nat}{X A:List Int}(h:IOwn w base (.slice (some ⟨g,0,none⟩) kp cc) X)(hA:A=(X.drop off).take n)(ho:off+n≤X.length)(hI: ∀x∈X,InI x):RowN w g off n∧SL w g off n A w:=by
 have hlen:A.length=n:=by rw[hA,List.length_take,List.length_drop];omega
 rcases h.form with ⟨h1,_⟩ | ⟨g',cap',e1,hb,hlt,hcap,hcell,hfr⟩
 ·cases h1
 cases e1
 have hH:Holds (Value.int .i64) w g off A.toArray:=fun j hj=>by
  have hj':j<n:=by simpa[hlen] using hj
  refine⟨?_,hfr _⟩
  rw[hcell (off+j) (by omega),ae7,hA]
  simp only[List.getD_eq_getElem?_getD]
  rw[List.getElem?_take_of_lt hj',List.getElem?_drop]
 exact⟨⟨A,hlen,⟨oneCell_int,hH,hlt⟩⟩,⟨SW.start hH,hlen,fun x hx=>(hI x (List.mem_of_mem_drop (List.mem_of_mem_take (by rw[hA] at hx;exact hx)))).i64⟩⟩
def FormPost (L:List Mk)(E:Int→List Int)(w:World)(ps:List Int)(e:Ending)(w':World):Prop:= ∃g k c X,e=.returned (.slice (some ⟨g,0,none⟩) k c)∧IOwn w' w.heap.size (.slice (some ⟨g,0,none⟩) k c) X∧FormOf (aaa L) (aa3 E ps) X∧((∀x∈X,x∈aa3 E ps)∧X.length=(aa3 E ps).length)∧Below w.heap.size w w'
set_option maxHeartbeats 8000000 in
set_option maxRecDepth 20000 in
theorem form_any (bd:Nat)(L:List Mk)(E:Int→List Int)(a:Option Addr)(kp cap:Nat)(ps:List Int)(w:World)(hps: ∀q∈ps,InI q)(hpt: ∀q∈aa3 E ps,InI q)(hc0: ∀p,0≤aaa L p)(hd:DataAt w bd L E)(hin:Ints w.heap.size w (.slice a kp cap) ps)(hkp:kp=ps.length)(hkl:(aa3 E ps).length≤68719476736)(hkl2:kp≤68719476736):
  Calls Tryz.prog 89 #[.pointer (some ⟨bd,0,none⟩),.slice a kp cap] w fun e w'=>FormPost L E w ps e w':=by
 have hb1:=(Below.refl w.heap.size w).alloc (Nat.le_refl _) (.cells #[.pointer (some ⟨bd,0,none⟩)] 58)
 have hd1:=hd.below hb1
 have hbx:=Blk.new w 58 #[.pointer (some ⟨bd,0,none⟩)]
 have hin1:Ints (w.alloc (.cells #[.pointer (some ⟨bd,0,none⟩)] 58)).heap.size _ (.slice a kp cap) ps:=(hin.below hb1 (Nat.le_refl _)).mono hb1.size
 have hs1:(w.alloc (.cells #[.pointer (some ⟨bd,0,none⟩)] 58)).heap.size=w.heap.size+1:=by simp
 clear hin hd
 go_enter Tryz.func89,Tryz.ntmps89
 go_upto_region 1 with fail
 generalize w.alloc (.cells #[.pointer (some ⟨bd,0,none⟩)] 58)=w1 at hb1 hd1 hbx hin1 hs1⊢
 have hbc:w1.cell? ⟨w.heap.size,0,none⟩=some (.pointer (some ⟨bd,0,none⟩)):=hbx.cell 0
 have HS1:Hid (w1.heap.size=w.heap.size+1):=hs1
 have HKP:Hid (kp=ps.length):=hkp
 clear hs1 hkp
 go_wp2_with fail
 refine(decompose_any bd L E a kp cap ps w1 hps hd1 hin1 HKP.out hkl hkl2).mono ?_
 rintro e w2 ⟨g,kq,cq,rfl,hown2,hbel2⟩
 obtain⟨av,cv,hv⟩:=hown2.val
 have hkq:kq=(aa3 E ps).length:=by simpa using (Value.slice.inj hv).2.1
 have HKQ:Hid (kq=(aa3 E ps).length):=hkq
 have hkql:kq≤68719476736:=by omega
 have H0:Aside (FormW L E w1 bd w.heap.size g kq cq (aa3 E ps) (aa3 E ps) 0 w2):=⟨hown2,hbel2,FormAt.start⟩
 have HG:Hid (w1.heap.size≤g):=by
  rcases hown2.form with ⟨h1,_⟩ | ⟨g',cap',e1,hb,_⟩
  ·cases h1
  ·cases e1;exact hb
 have HPT:Aside _:=hpt
 have HC0:Aside _:=hc0
 have HD:Aside (DataAt w1 bd L E):=hd1
 have HB1:Aside (Below w.heap.size w w1):=hb1
 have hbc2:w2.cell? ⟨w.heap.size,0,none⟩=some (.pointer (some ⟨bd,0,none⟩)):=(hbel2.cell (p:=⟨w.heap.size,0,none⟩) (show w.heap.size<w1.heap.size by rw[HS1.out];omega)).trans hbc
 clear hown2 hbel2 hv hkq hpt hc0 hd1 hb1 hin1 hbx hkl hkl2 HKP hps
 go_wp2_with fail
 go_loopg [7] (kq+1) (fun g1 vi wr=> ∃(at0:Nat) (X:List Int),vi=.int .i64 at0∧at0≤kq+1∧kq+1-at0≤g1∧Aside (FormW L E w1 bd w.heap.size g kq cq (aa3 E ps) X at0 wr))
 case atStart=>exact⟨0,aa3 E ps,rfl,by omega,by omega,H0⟩
 case round=>
  have HBC:Aside (w1.cell? ⟨w.heap.size,0,none⟩=some (.pointer (some ⟨bd,0,none⟩))):=hbc
  clear H0 hbc hbc2
  obtain⟨at0,X,rfl,hat1,hg1,H1⟩:=hrel
  have hXl:kq=X.length:=by
   obtain⟨av,cv,hv⟩:=H1.out.own.val
   simpa using (Value.slice.inj hv).2.1
  have HXL:Hid (kq=X.length):=hXl
  have hcap:kq≤cq:=by
   rcases H1.out.own.form with ⟨h1,_⟩ | ⟨g',cap',e1,_,_,hb,_⟩
   ·cases h1
   ·cases e1;omega
  by_cases hlt:at0<kq
  ·have hltz:(at0:Int)<(kq:Int):=by omega
   have hbr:wr.cell? ⟨w.heap.size,0,none⟩=some (.pointer (some ⟨bd,0,none⟩)):=(H1.out.below.cell (p:=⟨w.heap.size,0,none⟩) (show w.heap.size<w1.heap.size by rw[HS1.out];omega)).trans HBC.out
   have hdr:DataAt wr bd L E:=HD.out.below H1.out.below
   have hXI: ∀x∈X,InI x:=fun x hx=>HPT.out x (H1.out.form.mem x hx)
   have hre:=rowEnd_any bd L E (some ⟨g,0,none⟩) kq cq at0 wr.heap.size X wr hXI hdr H1.out.own.ints hXl hkql (by omega)
   have HXI:Aside _:=hXI
   clear hXI hdr hXl
   go_wp2_with fail
   refine hre.mono ?_
   rintro e w3 ⟨en,rfl,hr,rfl⟩
   have hr1:=hr.le
   have hr2:en≤kq:=by rw[HXL.out];exact hr.top
   have hz1:(at0:Int)≤(en:Int):=by omega
   have hz2:(en:Int)≤(cq:Int):=by omega
   have HR:Aside _:=hr
   clear hr hre
   go_wp2_with fail
   have hRS:=rows_of_own (off:=at0) (n:=en-at0) H1.out.own rfl (by rw[←HXL.out];omega) HXI.out
   have hCO:CmpOk 135 #[.pointer (some ⟨w.heap.size,0,none⟩)] (aaa L) wr g at0 (en-at0):=fun W D hS x y hx hy=>by
    have hbW:Below w1.heap.size wr W:=hS.below HG.out H1.out.below.size
    have hbA:=H1.out.below.trans hbW
    exact byClass_any w.heap.size bd L E x y W hx.inI hy.inI ((hbA.cell (p:=⟨w.heap.size,0,none⟩) (show w.heap.size<w1.heap.size by rw[HS1.out];omega)).trans HBC.out) (HD.out.below hbA)
   refine(sortStable_any hRS.1 (by omega) (fun _ _=>rfl) hCO (cq-at0) wr hRS.2).mono ?_
   rintro e w4 ⟨rfl,C,SC,sC,aC⟩
   have H2:Aside (FormW L E w1 bd w.heap.size g kq cq (aa3 E ps) (X.take at0++C++X.drop en) (en+1) w4):=
    ⟨SC.own H1.out.own (three_parts X hr1) (by rw[List.length_take,←HXL.out];omega) (by rw[List.length_take,List.length_drop,←HXL.out];omega),
     H1.out.below.trans (SC.below HG.out H1.out.below.size),H1.out.form.step HC0.out (by rw[←HXL.out];exact hlt) HR.out sC aC SC.len⟩
   generalize X.take at0++C++X.drop en=X2 at H2
   clear hRS hCO SC sC aC HR H1 hbr
   go_wp2
   go_roundg (kq+1-(en+1))
   case measure=>omega
   case rel=>exact⟨en+1,X2,by first | rfl | go_num,by omega,Nat.le_refl _,H2⟩
  ·have hltz: ¬(at0:Int)<(kq:Int):=by omega
   clear hXl
   go_wp2_with fail
   go_ret
   have hsz:w.heap.size≤w1.heap.size:=HB1.out.size
   exact⟨g,kq,cq,X,rfl,H1.out.own.mono hsz,H1.out.form.done (by rw[←HXL.out];omega),⟨H1.out.form.mem,H1.out.form.len⟩,HB1.out.trans (H1.out.below.mono hsz)⟩
end Go.Proofs.YtpfkoldfbecdlaaGreatDoor
namespace Go.Proofs.YtpfkoldfbecdlaaGreatDoor
open Go.RowKit Go.Vf
theorem drop_getD (l:List Int)(k:Nat)(h:k<l.length):l.drop k=(l[k]?.getD 0)::l.drop (k+1):=by
 rw[List.drop_eq_getElem_cons h,List.getElem?_eq_getElem h];rfl
end Go.Proofs.YtpfkoldfbecdlaaGreatDoor
namespace Go.Proofs.YtpfkoldfbecdlaaGreatDoor
open Go.RowKit Go.Vf Go.Maps
def acq (L:List Mk)(E:Int→List Int)(ps X:List Int):Prop:=FormOf (aaa L) (aa3 E ps) X
end Go.Proofs.YtpfkoldfbecdlaaGreatDoor
namespace Go.Vf
theorem linesR_why: ∀(C:List (List UInt8)) (n:Int) (acc:List Mk) (why line:Int),aau C n acc=.error (why,line)→(why=40∨why=41∨why=2)∧n+1≤line∧line≤n+C.length:=by
 intro C
 induction C with
 | nil=>intro n acc why line h;cases h
 | cons s r ih=>
  intro n acc why line h
  unfold aau at h
  split at h
  ·obtain⟨a,b,c⟩:=ih _ _ _ _ h
   exact⟨a,by omega,by simp;omega⟩
  ·split at h
   ·cases h;exact⟨.inl rfl,by omega,by simp;omega⟩
   ·split at h
    ·cases h;exact⟨.inr (.inl rfl),by omega,by simp;omega⟩
    ·split at h
     ·cases h;exact⟨.inr (.inr rfl),by omega,by simp;omega⟩
     ·obtain⟨a,b,c⟩:=ih _ _ _ _ h
      exact⟨a,by omega,by simp;omega⟩
theorem load_why {t:List UInt8}{why line:Int}(h:aav t=.error (why,line)):why≠0:=by
 unfold aav at h
 split at h
 ·cases h;decide
 ·rename_i ht
  split at h
  ·rename_i e hl
   cases h
   have:=(linesR_why _ _ _ _ _ hl).1
   omega
  ·rename_i L hl
   split at h
   ·rename_i hw
    obtain⟨S,hS,_⟩:=ae5 (abr (by omega) hl).2.2.2.2
    rw[hS] at hw
    cases hw
   ·split at h
    ·cases h;decide
    ·split at h
     ·cases h;decide
     ·cases h
theorem letters_not {p q:Int}(hs:ab5 p=true)(hq:q∈aa5 p):ab5 q=false:=by
 have hb:44032≤p∧p≤55203:=by simpa[ab5] using hs
 unfold aa5 at hq
 split at hq
 ·simp at hq
  simp[ab5];omega
 ·simp at hq
  simp[ab5];omega
end Go.Vf
