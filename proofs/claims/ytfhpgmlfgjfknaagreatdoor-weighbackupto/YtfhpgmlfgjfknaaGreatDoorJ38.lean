/- Contracts and lemmas (nothing is claimed here). -/
import Derived.Test.YtfhpgmlfgjfknaaGreatDoorJ37
import Derived.Test.YtfhpgmlfgjfknaaGreatDoorLoadsK
import Derived.Lib.SmallJoins
namespace Go.Proofs.YtfhpgmlfgjfknaaGreatDoor
open Go.RowKit Go.Vf
def a61 (k:Nat)(l:List UInt8)(j:Nat):Prop:=(2≤j→alb k l=true)∧ ∀i,2≤i→i<j→afz (l[i]?.getD 0)=true
def AccB (a j:Nat):Prop:=a≤67375167∧(j≤3→a≤1052735)∧(j≤2→a≤16447)∧(j≤1→a≤255)
theorem AccB.next {a b j c:Nat}(h:AccB a j)(hj0:1≤j)(hj:j≤3)(hb:b≤191)(e:c=a*64+(b-128)):AccB c (j+1):=by
 obtain⟨h1,h2,h3,h4⟩:=h
 have g2:=h2 hj
 refine⟨by omega,fun h=> ?_,fun h=> ?_,fun h=>absurd h (by omega)⟩
 ·have g3:=h3 (by omega)
  omega
 ·have g4:=h4 (by omega)
  omega
theorem a7p {k:Nat}{l:List UInt8}{z j:Nat}(hw:abh k l=(alb k l&&((l.take z).drop 2).all afz))(hz:z≤l.length)(hlh:128≤(aaf k).low∧(aaf k).high≤191)(hj:1≤j)(hjz:j<z)
  (hb:(l[j]?.getD 0).toNat<128∨191<(l[j]?.getD 0).toNat):abh k l=false:=by
 cases h:abh k l with
 | false=>rfl
 | true=>
  rw[hw,Bool.and_eq_true,au0 hz] at h
  rcases Nat.lt_or_ge 1 j with h2 | h2
  ·have h3:=h.2 j h2 hjz
   rw[afz,Bool.and_eq_true,decide_eq_true_eq,decide_eq_true_eq] at h3
   omega
  ·have h3:=h.1
   obtain rfl:j=1:=by omega
   rw[alb,Bool.and_eq_true,decide_eq_true_eq,decide_eq_true_eq] at h3
   omega
theorem a6c {k:Nat}{l:List UInt8}{j:Nat}(h:a61 k l j)(hj:2≤j)(h1:128≤(l[j]?.getD 0).toNat)(h2:(l[j]?.getD 0).toNat≤191):a61 k l (j+1):=
 ⟨fun _=>h.1 hj,fun n g1 g2=>by
  rcases Nat.lt_or_ge n j with h3 | h3
  ·exact h.2 n g1 h3
  ·obtain rfl:n=j:=by omega
   rw[afz,Bool.and_eq_true,decide_eq_true_eq,decide_eq_true_eq]
   exact⟨h1,h2⟩⟩
set_option maxHeartbeats 2000000 in
set_option maxRecDepth 20000 in
theorem atb (s:ByteArray)(at_:Nat)(hat:at_<s.size)(hs:s.size≤4294967296)(w:World):
  Calls Tryz.prog 103 #[.string s,.int .i64 (at_:Int)] w fun e w'=>e=.returned (.tuple #[.int .i64 ((asd (s.data.toList.drop at_)).1:Int),.int .i64 ((asd (s.data.toList.drop at_)).2:Int)])∧w=w':=by
 obtain⟨l,hl⟩: ∃l,l=s.data.toList.drop at_:=⟨_,rfl⟩
 rw[←hl]
 have hget: ∀i (h:at_+i<s.size),l[i]?.getD 0=s[at_+i]:=fun i h=>by
  rw[hl,List.getElem?_drop,ai5 s (at_+i) h];rfl
 have hll:l.length=s.size-at_:=by rw[hl,List.length_drop,←Lib.size_eq]
 have hg0:l[0]?.getD 0=s[at_]:=hget 0 hat
 obtain⟨A,B,hAB⟩: ∃A B,asd l=(A,B):=⟨_,_,rfl⟩
 rw[hAB]
 have HAB:Hid (asd l=(A,B)):=hAB
 have hln:amu s[at_].toNat=(match adt s[at_].toNat with | some k=>(aaf k).size | none=>0):=rfl
 have h256:s[at_].toNat<256:=s[at_].toNat_lt
 clear hl hAB
 cases hrow:adt s[at_].toNat with
 | none=>
  have e0:A=0∧B=0:=by
   have:=HAB.out
   unfold asd at this
   rw[hg0,hrow] at this
   simp at this
   exact⟨this.1.symm,this.2.symm⟩
  obtain⟨rfl,rfl⟩:=e0
  rw[hrow] at hln
  have hln':amu s[at_].toNat=0:=hln
  clear hrow hln hget hg0
  go_enter Tryz.func103,Tryz.ntmps103
  go_wp2_with fail
  refine(akt s[at_].toNat w).mono ?_
  rintro e w1 ⟨rfl,rfl⟩
  rw[hln']
  go_wp2
  refine bodyPost_ret (ab5 rfl rfl) rfl ?_
  exact⟨rfl,rfl⟩
 | some k=>
  obtain⟨hk9,hf1,hf2⟩:=ald hrow
  have HROW:Hid (adt s[at_].toNat=some k):=hrow
  have hz1:1≤(aaf k).size∧(aaf k).size≤4:=by rcases acf hk9 with rfl | rfl | rfl | rfl | rfl | rfl | rfl | rfl | rfl<;>simp[aaf]
  rw[hrow] at hln
  have hln':amu s[at_].toNat=(aaf k).size:=hln
  have hAB2:(if abh k l then (agx (l.take (aaf k).size) (aaf k).size,(aaf k).size) else (0,0))=(A,B):=by
   have:=HAB.out
   unfold asd at this
   rw[hg0,hrow] at this
   exact this
  obtain⟨z,hz⟩: ∃z,z=(aaf k).size:=⟨_,rfl⟩
  rw[←hz] at hz1 hln' hAB2
  have HZ:Hid (z=(aaf k).size):=hz
  clear hrow hln HAB hz
  by_cases hfit:at_+z≤s.size
  ·have hlz:z≤l.length:=by omega
   have htz:(l.take z).length=z:=by rw[List.length_take];omega
   obtain⟨L,hL⟩: ∃L,L=l.take z:=⟨_,rfl⟩
   rw[←hL] at hAB2 htz
   have hLg: ∀i (h:i<z),L[i]?.getD 0=s[at_+i]'(by omega):=fun i h=>by
    have h2:L[i]? =l[i]?:=by rw[hL,List.getElem?_take,if_pos h]
    rw[h2];exact hget i (by omega)
   have hA1:agx L 1=s[at_].toNat-acq z:=by
    show(L[0]?.getD 0).toNat-acq L.length=_
    rw[hLg 0 (by omega),htz]
    try rfl
   have hAs: ∀j,j+1<z→ ∀(h:at_+(j+1)<s.size),agx L (j+2)=agx L (j+1)*64+(s[at_+(j+1)].toNat-128):=fun j hj h=>by
    show agx L (j+1)*64+((L[j+1]?.getD 0).toNat-128)=_
    rw[hLg (j+1) hj]
   have hwh:abh k l=((decide (z≤1)||alb k l)&&((l.take z).drop 2).all afz):=by
    unfold abh
    rw[←HZ.out,decide_eq_true hlz,Bool.true_and]
   rcases(show z=1∨2≤z by omega) with hz | hz2
   ·have hw1:abh k l=true:=by
     rw[hwh,hz,List.drop_eq_nil_of_le (by simp;omega)]
     simp
    rw[hw1] at hAB2
    simp only[if_true,Prod.mk.injEq] at hAB2
    obtain⟨rfl,rfl⟩:=hAB2
    subst hz
    rw[hA1]
    have hh:s[at_].toNat-acq 1=s[at_].toNat:=by simp[acq]
    rw[hh]
    clear hwh hAs hA1 hLg hL hget hg0 hf1 hf2 hw1 hh
    go_enter Tryz.func103,Tryz.ntmps103
    go_wp2_with fail
    refine(akt s[at_].toNat w).mono ?_
    rintro e w1 ⟨rfl,rfl⟩
    rw[hln']
    go_wp2
    refine bodyPost_ret (ab5 rfl rfl) rfl ?_
    exact⟨rfl,rfl⟩
   ·have hwh2:abh k l=(alb k l&&((l.take z).drop 2).all afz):=by
     rw[hwh,show decide (z≤1)=false by simp;omega]
     simp
    have HAS:Hid (∀j,j+1<z→ ∀(h:at_+(j+1)<s.size),agx L (j+2)=agx L (j+1)*64+(s[at_+(j+1)].toNat-128)):=hAs
    have hkz:2≤(aaf k).size:=by rw[←HZ.out];exact hz2
    have hlh:128≤(aaf k).low∧(aaf k).high≤191:=by
     rcases acf hk9 with rfl | rfl | rfl | rfl | rfl | rfl | rfl | rfl | rfl<;>simp only[aaf] at hkz⊢ <;>omega
    have hmod:(z=2→s[at_].toNat % 32=agx L 1)∧(z=3→s[at_].toNat % 16=agx L 1)∧(z=4→s[at_].toNat % 8=agx L 1)∧agx L 1≤255:=by
     have HZ':=HZ.out
     rw[hA1]
     refine⟨fun h=> ?_,fun h=> ?_,fun h=> ?_,by omega⟩
     ·rw[h];show _=s[at_].toNat-192
      rw[h] at HZ'
      rcases acf hk9 with rfl | rfl | rfl | rfl | rfl | rfl | rfl | rfl | rfl<;>simp only[aaf] at hf1 hf2 HZ'<;>omega
     ·rw[h];show _=s[at_].toNat-224
      rw[h] at HZ'
      rcases acf hk9 with rfl | rfl | rfl | rfl | rfl | rfl | rfl | rfl | rfl<;>simp only[aaf] at hf1 hf2 HZ'<;>omega
     ·rw[h];show _=s[at_].toNat-240
      rw[h] at HZ'
      rcases acf hk9 with rfl | rfl | rfl | rfl | rfl | rfl | rfl | rfl | rfl<;>simp only[aaf] at hf1 hf2 HZ'<;>omega
    obtain⟨m2,m3,m4,hb1⟩:=hmod
    have hF0:abh k l=false→A=0∧B=0:=fun h=>by
     rw[h] at hAB2
     simp at hAB2
     exact⟨hAB2.1.symm,hAB2.2.symm⟩
    have HBAD:Hid (∀i (h:at_+(i+1)<s.size),i+1<z→(s[at_+(i+1)].toNat<128∨191<s[at_+(i+1)].toNat)→A=0∧B=0):=fun i h h1 h2=>by
     rw[←hget (i+1) h] at h2
     exact hF0 (a7p hwh2 hlz hlh (by omega) h1 h2)
    have HSEC0:Hid (alb k l=false→A=0∧B=0):=fun h=>hF0 (by rw[hwh2,h];rfl)
    have HSECV:Hid (∀i (h:at_+(i+1)<s.size),i=0→(decide ((aaf k).low≤s[at_+(i+1)].toNat)&&decide (s[at_+(i+1)].toNat≤(aaf k).high))=alb k l):=fun i h h0=>by
     subst h0
     rw[alb,hget 1 h]
    have HNEXT:Hid (∀i (h:at_+(i+1)<s.size),a61 k l (i+1)→1≤i→128≤s[at_+(i+1)].toNat→s[at_+(i+1)].toNat≤191→a61 k l (i+2)):=fun i h h0 h1 h2 h3=>by
     rw[←hget (i+1) h] at h2 h3
     exact a6c h0 (by omega) h2 h3
    have HEND:Hid (a61 k l z→A=agx L z∧B=z):=fun h=>by
     have hw:abh k l=true:=by rw[hwh2,Bool.and_eq_true,au0 hlz];exact⟨h.1 hz2,h.2⟩
     rw[hw] at hAB2
     simp only[if_true,Prod.mk.injEq] at hAB2
     exact⟨hAB2.1.symm,hAB2.2.symm⟩
    have hac0:AccB (agx L 1) 1:=⟨by omega,fun _=>by omega,fun _=>by omega,fun _=>by omega⟩
    clear hwh hwh2 hAs hA1 hLg hL hget hg0 hf1 hf2 hAB2 hF0
    have hz1':((z:Int)==1)=false:=by simp;omega
    have hz0':((z:Int)==0)=false:=by simp;omega
    have hfit':decide ((s.size:Int)<(at_:Int)+(z:Int))=false:=by simp;omega
    have hmid:(((z:Int)==3)=false∧((z:Int)==4)=false∧(s[at_].toNat:Int) % 32=(agx L 1:Int))∨(((z:Int)==3)=true∧((z:Int)==4)=false∧(s[at_].toNat:Int) % 16=(agx L 1:Int))∨(((z:Int)==3)=false∧((z:Int)==4)=true∧(s[at_].toNat:Int) % 8=(agx L 1:Int)):=by
     rcases(show z=2∨z=3∨z=4 by omega) with h | h | h
     ·exact .inl ⟨by rw[h];decide,by rw[h];decide,by have:=m2 h;omega⟩
     ·exact .inr (.inl ⟨by rw[h];decide,by rw[h];decide,by have:=m3 h;omega⟩)
     ·exact .inr (.inr ⟨by rw[h];decide,by rw[h];decide,by have:=m4 h;omega⟩)
    clear m2 m3 m4
    rcases hmid with ⟨q1,q2,q3⟩ | ⟨q1,q2,q3⟩ | ⟨q1,q2,q3⟩
    all_goals
     go_enter Tryz.func103,Tryz.ntmps103
     go_wp2_with fail
     refine(akt s[at_].toNat w).mono ?_
     rintro e w1 ⟨rfl,rfl⟩
     rw[hln']
     go_wp2
     go_loopw [8,9] (fun n i wr=> ∃j:Nat,1≤j∧j≤z∧i=.int .i64 j∧n=.int .i64 ((agx L j:Nat):Int)∧AccB (agx L j) j∧a61 k l j∧wr=w) (fun _ i _=>z-(intOf i).toNat)
     case atStart=>exact⟨1,by omega,by omega,rfl,by rw[q3],hac0,⟨fun h=>absurd h (by decide),fun i h1 h2=>absurd h2 (by omega)⟩,rfl⟩
     case round=>
      obtain⟨j,hj1,hj2,rfl,rfl,hac,hok,rfl⟩:=hrel
      clear q3
      rcases Nat.lt_or_ge j z with hlt | hge
      ·obtain⟨i,rfl⟩: ∃i,j=i+1:=⟨j-1,by omega⟩
       have hai:at_+(i+1)<s.size:=by omega
       have h256i:(s[at_+(i+1)]'hai).toNat<256:=(s[at_+(i+1)]'hai).toNat_lt
       by_cases t1:(s[at_+(i+1)]'hai).toNat<128
       ·obtain⟨rfl,rfl⟩:=HBAD.out i hai hlt (.inl t1)
        clear HEND HNEXT HSECV HSEC0 HBAD HAS hac
        go_wp2
        refine bodyPost_ret (ab5 rfl rfl) rfl ?_
        exact⟨rfl,rfl⟩
       ·by_cases t2:191<(s[at_+(i+1)]'hai).toNat
        ·obtain⟨rfl,rfl⟩:=HBAD.out i hai hlt (.inr t2)
         clear HEND HNEXT HSECV HSEC0 HBAD HAS hac
         go_wp2_with fail
         refine bodyPost_ret (ab5 rfl rfl) rfl ?_
         exact⟨rfl,rfl⟩
        ·have HE:Hid (agx L (i+2)=agx L (i+1)*64+((s[at_+(i+1)]'hai).toNat-128)):=HAS.out i hlt hai
         have hbd:=hac.1
         have hac2:AccB (agx L (i+2)) (i+2):=hac.next (by omega) (by omega) (by omega) HE.out
         rcases Nat.eq_zero_or_pos i with hi0 | hi0
         ·have g1:(((i:Int)+1)==1)=true:=by rw[hi0];decide
          have HV:=HSECV.out i hai hi0
          have HV2:Hid ((decide ((aaf k).low≤(s[at_+(i+1)]'hai).toNat)&&decide ((s[at_+(i+1)]'hai).toNat≤(aaf k).high))=alb k l):=HV
          have hok2:alb k l=true→a61 k l (i+2):=fun h=>⟨fun _=>h,fun n h1 h2=>absurd h2 (by omega)⟩
          clear HV hi0 hok
          cases hsb:alb k l with
          | false=>
           obtain⟨rfl,rfl⟩:=HSEC0.out hsb
           have HSB:Hid (alb k l=false):=hsb
           clear hsb HEND HNEXT HSECV HSEC0 HBAD HAS hok2
           go_wp2_with fail
           refine(ane s[at_].toNat _ k HROW.out hkz _).mono ?_
           rintro e w1 ⟨rfl,rfl⟩
           rw[HV2.out,HSB.out]
           go_wp2
           refine bodyPost_ret (ab5 rfl rfl) rfl ?_
           exact⟨rfl,rfl⟩
          | true=>
           have HSB:Hid (alb k l=true):=hsb
           have hok3:=hok2 hsb
           clear hsb HEND HNEXT HSECV HSEC0 HBAD HAS hok2
           go_wp2_with fail
           refine(ane s[at_].toNat _ k HROW.out hkz _).mono ?_
           rintro e w1 ⟨rfl,rfl⟩
           rw[HV2.out,HSB.out]
           go_wp2
           go_roundw
           case rel=>exact⟨i+2,by omega,by omega,by go_num,by rw[HE.out];go_num,hac2,hok3,trivial⟩
           case measure=>simp[intOf];omega
         ·have g1:(((i:Int)+1)==1)=false:=by simp;omega
          have hok3:=HNEXT.out i hai hok hi0 (by omega) (by omega)
          clear HEND HNEXT HSECV HSEC0 HBAD HAS hok
          go_wp2
          go_roundw
          case rel=>exact⟨i+2,by omega,by omega,by go_num,by rw[HE.out];go_num,hac2,hok3,trivial⟩
          case measure=>simp[intOf];omega
      ·obtain rfl:j=z:=Nat.le_antisymm hj2 hge
       obtain⟨rfl,rfl⟩:=HEND.out hok
       clear HEND HNEXT HSECV HSEC0 HBAD HAS hok
       go_wp2
       refine bodyPost_ret (ab5 rfl rfl) rfl ?_
       exact⟨rfl,rfl⟩
  ·have e0:A=0∧B=0:=by
    have:abh k l=false:=by unfold abh;rw[←HZ.out,hll];simp;omega
    rw[this] at hAB2
    simp at hAB2
    exact⟨hAB2.1.symm,hAB2.2.symm⟩
   obtain⟨rfl,rfl⟩:=e0
   clear hAB2 hget hg0 hf1 hf2
   have hz0:((z:Int)==0)=false:=by simp;omega
   go_enter Tryz.func103,Tryz.ntmps103
   go_wp2_with fail
   refine(akt s[at_].toNat w).mono ?_
   rintro e w1 ⟨rfl,rfl⟩
   rw[hln']
   go_wp2
   refine bodyPost_ret (ab5 rfl rfl) rfl ?_
   exact⟨rfl,rfl⟩
set_option maxHeartbeats 1000000 in
set_option maxRecDepth 20000 in
theorem aka (s:ByteArray)(hsz:s.size≤4294967296)(ps:List Nat)(rest:List UInt8)(hs:s.data.toList=adf ps++rest)(hps: ∀p∈ps,ajh p)(hrest:rest=[]∨ai2 rest)(w:World):
  Calls Tryz.prog 102 #[.string s] w fun e w'=>e=.returned (.int .i64 (amy ps rest))∧w=w':=by
 have HS:Hid (s.data.toList=adf ps++rest):=hs
 obtain⟨C,HC⟩: ∃C,Hid (C=amy ps rest):=⟨_,rfl⟩
 rw[←HC.out]
 clear hs
 go_enter Tryz.func102,Tryz.ntmps102
 go_wp2
 go_loopw [3] (fun i wr=> ∃(ps1 ps2:List Nat) (k:Nat),Hid (ps=ps1++ps2∧k=(adf ps1).length)∧k≤s.size∧i=.int .i64 k∧wr=w) (fun i _=>s.size-(intOf i).toNat)
 case atStart=>exact⟨[],ps,0,⟨rfl,rfl⟩,Nat.zero_le _,rfl,rfl⟩
 case round=>
  obtain⟨ps1,ps2,k,HP,hk,rfl,rfl⟩:=hrel
  by_cases hlt:k<s.size
  ·cases ps2 with
   | nil=>
    have hdrop:s.data.toList.drop k=rest:=by rw[HS.out,HP.out.1,HP.out.2,List.append_nil,List.drop_left]
    have hne:rest≠ []:=by
     intro h
     have:=congrArg List.length hdrop
     rw[h,List.length_drop,←Lib.size_eq] at this
     simp at this
     omega
    have h1:asd (s.data.toList.drop k)=(0,0):=by rw[hdrop];exact azm (hrest.resolve_left hne)
    have hC:C=(k:Int):=by rw[HC.out,amy,if_neg hne,HP.out.1,List.append_nil,←HP.out.2]
    have H1:Hid (asd (s.data.toList.drop k)=(0,0)):=h1
    clear h1 hdrop
    go_wp2_with fail
    refine(atb s k hlt hsz _).mono ?_
    rintro e w1 ⟨rfl,rfl⟩
    rw[H1.out]
    go_wp2
    go_ret
    exact⟨by first | (rw[hC];rfl) | rfl,rfl⟩
   | cons p ps2=>
    have hp:ajh p:=hps p (by rw[HP.out.1];simp)
    have hdrop:s.data.toList.drop k=enc p++(adf ps2++rest):=by
     rw[HS.out,HP.out.1,HP.out.2,abx,List.append_assoc,List.drop_left];simp[adf]
    obtain⟨z,hz⟩: ∃z,z=(enc p).length:=⟨_,rfl⟩
    have h1:asd (s.data.toList.drop k)=(p,z):=by rw[hdrop,hz];exact avd hp _
    have hz1:1≤z∧z≤4:=by rw[hz];exact⟨ahc p,avw p⟩
    have hfit:k+z≤s.size:=by
     have:=congrArg List.length hdrop
     rw[List.length_drop,←Lib.size_eq,List.length_append,←hz] at this
     omega
    have HP2:Hid (ps=(ps1++[p])++ps2∧k+z=(adf (ps1++[p])).length):=by
     refine⟨by rw[HP.out.1];simp,?_⟩
     rw[abx,List.length_append,←HP.out.2,hz];simp[adf]
    have H1:Hid (asd (s.data.toList.drop k)=(p,z)):=h1
    have hz0:((z:Int)==0)=false:=by simp;omega
    clear h1 hdrop hz HP
    go_wp2_with fail
    refine(atb s k hlt hsz _).mono ?_
    rintro e w1 ⟨rfl,rfl⟩
    rw[H1.out]
    go_wp2
    go_roundw
    case rel=>exact⟨ps1++[p],ps2,k+z,HP2,hfit,by go_num,trivial⟩
    case measure=>simp[intOf];omega
  ·have hend:rest=[]:=by
    have h1:=Lib.size_eq s
    rw[HS.out,HP.out.1,abx,List.append_assoc,List.length_append,←HP.out.2,List.length_append] at h1
    exact List.eq_nil_of_length_eq_zero (by omega)
   have hC:C= -1:=by rw[HC.out,amy,if_pos hend]
   go_wp2
   go_ret
   exact⟨by first | (rw[hC];rfl) | rfl,rfl⟩
theorem ajk {w:World}{ops:Array Oper}{rest:List Oper}{o:Oper}{a:Act}{Q:Exit→Act→World→Prop}(hgd:o.guard=none)(s x:Operand)
  (ho:o.op=.call {callee:=.builtin .append,args:= #[s,x],argTypes:= #[46,46]})
  (base:Nat) (v:Value) (zs:List Int) (hs:a.eval s=v) (hown:IOwn w base v zs) (n:Int) (c:Nat) (hx:a.eval x=.slice (some ⟨w.heap.size,0,none⟩) 1 c)
  (hlen:zs.length≤1099511627776) (hbase:base≤w.heap.size) (B:Nat) (w0:World) (hb:Below B w0 w) (hB:B≤base)
  (h: ∀v' w',IOwn w' base v' (zs++[n])→Below B w0 w'→base≤w'.heap.size→w.grownBy w' v.ownBlock→wpList Tryz.prog ops Q rest (a.put o.dst v') w'):
  wpList Tryz.prog ops Q (o::rest) a (w.alloc (.cells #[.int .i64 n] 3)):=by
 obtain⟨i,hi,hz,hsz,hby⟩:=info_parts at1
 refine wpList_append_own (P:=Tryz.prog) _ hgd s x 46 ho base 3 i (.int .i64 0) 1 8 Tryz.underlying46 hi hz hsz hby rfl (by decide) v zs.length (zs.map (Value.int .i64)) hs (World.ownsRow.alloc hown _) ⟨w.heap.size,0,none⟩ 1 c [.int .i64 n] hx rfl ?_ ?_ ?_ ?_ ?_ ?_
 ·intro j u hj
  match j,hj with
  | 0,hj=>simp at hj;subst hj;simp[Addr.add]
 ·intro u hu;simp at hu;subst hu;rfl
 ·unfold maxLen;omega
 ·omega
 ·simp;omega
 ·intro v' w' h1 h2 _
  have hg:w.grownBy w' v.ownBlock:=by
   refine⟨h2.os.trans rfl,h2.tape.trans rfl,h2.output.trans rfl,by have:=h2.size;simp at this;omega,fun k hk hne=> ?_⟩
   exact(h2.block k (by simp;omega) hne).trans (Below.heap_alloc w _ k hk)
  refine h v' w' ?_ ?_ ?_ hg
  ·unfold IOwn
   rw[List.map_append,List.length_append]
   exact h1
  ·exact(hb.alloc (by omega) _).grown h2 (by simp;omega) (fun k hk=>by
    have:=(aan (World.ownsRow.alloc hown (.cells #[.int .i64 n] 3)) hk).1
    omega)
  ·have:=h2.size;simp at this;omega
theorem aiy {tmps:Array Value}{w:World}{a:Option Addr}{l c:Nat}{e n:Int}(t2:tmps[2]?.getD undef=.slice a l c)(t3:tmps[3]?.getD undef=.int .i64 e)(t4:tmps[4]?.getD undef=.int .i64 n):
  (results Tryz.f54 tmps).run Tryz.prog w=.ok (.tuple #[.slice a l c,.int .i64 e,.int .i64 n]) w:=by
 simp[results,Tryz.results54,go_sem,t2,t3,t4]
set_option maxHeartbeats 1000000 in
set_option maxRecDepth 20000 in
theorem ao0 (s:ByteArray)(hsz:s.size≤4294967296)(ps:List Nat)(rest:List UInt8)(hs:s.data.toList=adf ps++rest)(hps: ∀p∈ps,ajh p)(hrest:rest=[]∨ai2 rest)(w:World):
  Calls Tryz.prog 54 #[.string s] w fun e w'=>a14 ps rest w e w'∧Below w.heap.size w w':=by
 have HS:Hid (s.data.toList=adf ps++rest):=hs
 clear hs
 by_cases hr:rest=[]
 ·have hC:amy ps rest= -1:=by rw[amy,if_pos hr]
  have HC:Hid (amy ps rest= -1):=hC
  clear hC
  go_enter Tryz.func54,Tryz.ntmps54
  go_wp2_with fail
  refine(aka s hsz ps rest HS.out hps hrest w).mono ?_
  rintro e w1 ⟨rfl,rfl⟩
  rw[HC.out]
  go_wp2_with fail
  go_loopw [6,7] (fun v i wr=> ∃(ps1 ps2:List Nat) (k:Nat),Hid (ps=ps1++ps2∧k=(adf ps1).length)∧k≤s.size∧i=.int .i64 k∧IOwn wr w.heap.size v (ps1.map fun p:Nat=>(p:Int))∧Below w.heap.size w wr) (fun _ i _=>s.size-(intOf i).toNat)
  case atStart=>exact⟨[],ps,0,⟨rfl,rfl⟩,Nat.zero_le _,rfl,IOwn.nil _ _,Below.refl _ _⟩
  case round=>
   obtain⟨ps1,ps2,k,HP,hk,rfl,hown,hbel⟩:=hrel
   by_cases hlt:k<s.size
   ·cases ps2 with
    | nil=>
     have h1:=Lib.size_eq s
     rw[HS.out,HP.out.1,hr,List.append_nil,List.append_nil,←HP.out.2] at h1
     omega
    | cons p ps2=>
     have hp:ajh p:=hps p (by rw[HP.out.1];simp)
     have hdrop:s.data.toList.drop k=enc p++(adf ps2++rest):=by
      rw[HS.out,HP.out.1,HP.out.2,abx,List.append_assoc,List.drop_left];simp[adf]
     obtain⟨z,hz⟩: ∃z,z=(enc p).length:=⟨_,rfl⟩
     have h1:asd (s.data.toList.drop k)=(p,z):=by rw[hdrop,hz];exact avd hp _
     have hz1:1≤z∧z≤4:=by rw[hz];exact⟨ahc p,avw p⟩
     have hfit:k+z≤s.size:=by
      have:=congrArg List.length hdrop
      rw[List.length_drop,←Lib.size_eq,List.length_append,←hz] at this
      omega
     have HP2:Hid (ps=(ps1++[p])++ps2∧k+z=(adf (ps1++[p])).length):=by
      refine⟨by rw[HP.out.1];simp,?_⟩
      rw[abx,List.length_append,←HP.out.2,hz];simp[adf]
     have hlen:(ps1.map fun p:Nat=>(p:Int)).length≤1099511627776:=by
      have:=abw ps1
      rw[←HP.out.2] at this
      simp
      omega
     have HLEN:Hid ((ps1.map fun p:Nat=>(p:Int)).length≤1099511627776):=hlen
     have H1:Hid (asd (s.data.toList.drop k)=(p,z)):=h1
     have hmap:(ps1.map fun p:Nat=>(p:Int))++[(p:Int)]=(ps1++[p]).map fun p:Nat=>(p:Int):=by simp
     have HMAP:Hid ((ps1.map fun p:Nat=>(p:Int))++[(p:Int)]=(ps1++[p]).map fun p:Nat=>(p:Int)):=hmap
     have hsz1:=hbel.size
     clear h1 hdrop hz HP hlen hmap
     go_wp2_with fail
     refine(atb s k hlt hsz _).mono ?_
     rintro e w1 ⟨rfl,rfl⟩
     rw[H1.out]
     go_wp2_with (at_builtin;refine ajk rfl _ _ rfl w.heap.size _ _ rfl hown _ 1 rfl HLEN.out hsz1 w.heap.size w hbel (Nat.le_refl _) ?_;intro v2 W2 hown2 hbel2 hsz2 _;rw[HMAP.out] at hown2)
     go_roundw
     case rel=>exact⟨ps1++[p],ps2,k+z,HP2,hfit,by go_num,hown2,hbel2⟩
     case measure=>simp[intOf];omega
   ·have hend:ps2=[]:=by
     have h1:=Lib.size_eq s
     rw[HS.out,HP.out.1,abx,List.append_assoc,List.length_append,←HP.out.2,List.length_append] at h1
     have:=abw ps2
     exact List.eq_nil_of_length_eq_zero (by omega)
    have hpe:ps1=ps:=by rw[HP.out.1,hend,List.append_nil]
    obtain⟨va,vc,hval⟩:=hown.ints.val
    have hown2:IOwn wr w.heap.size u6 (ps.map fun p:Nat=>(p:Int)):=hpe▸hown
    rw[hval] at hown2
    subst hval
    clear hown
    go_wp2
    refine bodyPost_ret (aiy rfl rfl rfl) rfl ?_
    exact⟨.inl ⟨hr,_,rfl,hown2⟩,hbel⟩
 ·have hC:amy ps rest=((adf ps).length:Int):=by rw[amy,if_neg hr]
  obtain⟨k,hk⟩: ∃k,k=(adf ps).length:=⟨_,rfl⟩
  rw[←hk] at hC
  have HC:Hid (amy ps rest=(k:Int)):=hC
  have HK:Hid (k=(adf ps).length):=hk
  clear hC hk
  go_enter Tryz.func54,Tryz.ntmps54
  go_wp2_with fail
  refine(aka s hsz ps rest HS.out hps hrest w).mono ?_
  rintro e w1 ⟨rfl,rfl⟩
  rw[HC.out]
  go_wp2_with fail
  refine bodyPost_ret (aiy rfl rfl rfl) rfl ?_
  exact⟨.inr ⟨hr,by rw[←HK.out]⟩,Below.refl _ _⟩
end Go.Proofs.YtfhpgmlfgjfknaaGreatDoor
namespace Go.Vf
theorem aft {n:Nat}{c:UInt8}(h:n=c.toNat):UInt8.ofNat n=c:=by subst h;simp
theorem ayc {l:List UInt8}{k:Nat}(hne:l≠ [])(hk:adt (l[0]?.getD 0).toNat=some k)(hw:abh k l=true): ∃p,ajh p∧l=enc p++l.drop (enc p).length:=by
 obtain⟨hk9,h1,h2⟩:=ald hk
 cases l with
 | nil=>exact absurd rfl hne
 | cons a l=>
  simp only[List.getElem?_cons_zero,Option.getD_some] at h1 h2
  have ha:=a.toNat_lt
  simp only[abh,Bool.and_eq_true,decide_eq_true_eq,Bool.or_eq_true] at hw
  obtain⟨w1,w2,w3⟩:=hw
  have hcase:k=0∨k=1∨(k=2∨k=3∨k=4∨k=5)∨(k=6∨k=7∨k=8):=by omega
  rcases hcase with rfl | rfl | hk3 | hk4
  ·simp only[aaf] at h1 h2
   refine⟨a.toNat,by unfold ajh;omega,?_⟩
   have e:enc a.toNat=[a]:=by unfold enc;rw[if_pos (by omega),aft rfl]
   rw[e];simp
  ·simp only[aaf,alb,List.length_cons] at h1 h2 w1 w2
   cases l with
   | nil=>simp at w1
   | cons b l=>
    simp at w2
    have e:enc ((a.toNat-0xc0)*64+(b.toNat-0x80))=[a,b]:=by
     unfold enc
     rw[if_neg (by omega),if_pos (by omega),aft (c:=a) (by omega),aft (c:=b) (by omega)]
    exact⟨(a.toNat-0xc0)*64+(b.toNat-0x80),by unfold ajh;omega,by rw[e];simp⟩
  ·have hz:(aaf k).size=3:=by rcases hk3 with rfl | rfl | rfl | rfl<;>rfl
   rw[hz] at w1 w2 w3
   match l,w1,w2,w3 with
   | b::c::l,_,w2,w3=>
    simp[alb] at w2
    simp[afz] at w3
    have e: ∀p,p=((a.toNat-0xe0)*64+(b.toNat-0x80))*64+(c.toNat-0x80)→0x800≤p→p<0x10000→0xe0≤a.toNat→0x80≤b.toNat→b.toNat≤0xbf→enc p=[a,b,c]:=by
     intro p hp g1 g2 g3 g4 g5
     unfold enc
     rw[if_neg (by omega),if_neg (by omega),if_pos (by omega),aft (c:=a) (by omega),aft (c:=b) (by omega),aft (c:=c) (by omega)]
    rcases hk3 with rfl | rfl | rfl | rfl<;>simp only[aaf] at h1 h2 w2<;>
     exact⟨((a.toNat-0xe0)*64+(b.toNat-0x80))*64+(c.toNat-0x80),by unfold ajh;omega,by rw[e _ rfl (by omega) (by omega) (by omega) (by omega) (by omega)];simp⟩
   | [b],w1,_,_=>simp at w1
   | [],w1,_,_=>simp at w1
  ·have hz:(aaf k).size=4:=by rcases hk4 with rfl | rfl | rfl<;>rfl
   rw[hz] at w1 w2 w3
   match l,w1,w2,w3 with
   | b::c::d::l,_,w2,w3=>
    simp[alb] at w2
    simp[afz] at w3
    have e: ∀p,p=(((a.toNat-0xf0)*64+(b.toNat-0x80))*64+(c.toNat-0x80))*64+(d.toNat-0x80)→0x10000≤p→0xf0≤a.toNat→0x80≤b.toNat→b.toNat≤0xbf→enc p=[a,b,c,d]:=by
     intro p hp g1 g3 g4 g5
     unfold enc
     rw[if_neg (by omega),if_neg (by omega),if_neg (by omega),aft (c:=a) (by omega),aft (c:=b) (by omega),aft (c:=c) (by omega),aft (c:=d) (by omega)]
    rcases hk4 with rfl | rfl | rfl<;>simp only[aaf] at h1 h2 w2<;>
     exact⟨(((a.toNat-0xf0)*64+(b.toNat-0x80))*64+(c.toNat-0x80))*64+(d.toNat-0x80),by unfold ajh;omega,by rw[e _ rfl (by omega) (by omega) (by omega) (by omega)];simp⟩
   | [b,c],w1,_,_=>simp at w1
   | [b],w1,_,_=>simp at w1
   | [],w1,_,_=>simp at w1
theorem ala (l:List UInt8): ∃(ps:List Nat) (rest:List UInt8),l=adf ps++rest∧(∀p∈ps,ajh p)∧(rest=[]∨ai2 rest):=by
 generalize hn:l.length=n
 induction n using Nat.strongRecOn generalizing l with
 | ind n ih=>
  by_cases hne:l=[]
  ·exact⟨[],[],by simp[hne,adf],by simp,.inl rfl⟩
  ·by_cases hc: ∃k,adt (l[0]?.getD 0).toNat=some k∧abh k l=true
   ·obtain⟨k,h1,h2⟩:=hc
    obtain⟨p,hp,hl⟩:=ayc hne h1 h2
    have hlen:=congrArg List.length hl
    rw[List.length_append] at hlen
    have hpos:=ahc p
    obtain⟨ps,rest,e1,e2,e3⟩:=ih (l.drop (enc p).length).length (by omega) (l.drop (enc p).length) rfl
    exact⟨p::ps,rest,by rw[hl,e1];simp[adf],by simpa using ⟨hp,e2⟩,e3⟩
   ·exact⟨[],l,by simp[adf],by simp,.inr ⟨hne,fun k h1=>by
     cases h2:abh k l with
     | false=>rfl
     | true=>exact absurd ⟨k,h1,h2⟩ hc⟩⟩
end Go.Vf
namespace Go.Proofs.YtfhpgmlfgjfknaaGreatDoor
open Go.RowKit Go.Vf Go.Maps
def a16 (m e:List UInt8)(w:World)(r:Ending)(w':World):Prop:=Below w.heap.size w w'∧
  ((∃why which line,adu m e=.error (why,which,line)∧r=.returned (.tuple #[.agg #[.bool false,.slice none 0 0,.slice none 0 0],.int .i64 why,.int .i64 which,.int .i64 line]))∨
   (∃L F E l da dn dc ta tn tc,adu m e=.ok ((L,F),E)∧aaw m=.ok (L,F)∧am0 l∧l.Perm E∧r=.returned (.tuple #[.agg #[.bool true,.slice da dn dc,.slice ta tn tc],.int .i64 0,.int .i64 0,.int .i64 0])∧MIn w'.heap.size w' (.slice da dn dc) (aag L)∧NOwn w' w.heap.size (.slice ta tn tc) l))
theorem agk {tmps:Array Value}{w:World}{h:Nat}{x y z a b c:Value}(hb:Blk w h 67 #[x,y,z])(t2:tmps[4]?.getD undef=.pointer (some ⟨h,0,none⟩))(t3:tmps[5]?.getD undef=a)(t4:tmps[6]?.getD undef=b)(t5:tmps[7]?.getD undef=c):
    (results Tryz.f23 tmps).run Tryz.prog w=.ok (.tuple #[.agg #[x,y,z],a,b,c]) w:=by
  have c0:w.cell? ⟨h,0,none⟩=some x:=hb.cell 0
  have c1:w.cell? ⟨h,1,none⟩=some y:=hb.cell 1
  have c2:w.cell? ⟨h,2,none⟩=some z:=hb.cell 2
  simp[results,Tryz.results23,go_sem,t2,t3,t4,t5,c0,c1,c2]
theorem a3h {w:World}{v:Value}{l:List PM}{g:Nat}{t:TypeId}{x:Bool}{a1 a2:Option Addr}{n1 n2 c1 c2:Nat}(h:MIn w.heap.size w v l)(hb:Blk w g t #[.bool x,.slice a1 n1 c1,.slice a2 n2 c2])(x' y' z':Value):
    MIn (((w.setCell ⟨g,0,none⟩ x').setCell ⟨g,1,none⟩ y').setCell ⟨g,2,none⟩ z').heap.size (((w.setCell ⟨g,0,none⟩ x').setCell ⟨g,1,none⟩ y').setCell ⟨g,2,none⟩ z') v l:=by
  have hsz:(((w.setCell ⟨g,0,none⟩ x').setCell ⟨g,1,none⟩ y').setCell ⟨g,2,none⟩ z').heap.size=w.heap.size:=by simp[World.setCell]
  have hk: ∀b j,b≠g→(((w.setCell ⟨g,0,none⟩ x').setCell ⟨g,1,none⟩ y').setCell ⟨g,2,none⟩ z').cell? ⟨b,j,none⟩=w.cell? ⟨b,j,none⟩:=fun b j hne=>by
    have:(((w.setCell ⟨g,0,none⟩ x').setCell ⟨g,1,none⟩ y').setCell ⟨g,2,none⟩ z').heap[b]? =w.heap[b]?:=(Below.heap_setCell _ ⟨g,2,none⟩ _ b hne).trans ((Below.heap_setCell _ ⟨g,1,none⟩ _ b hne).trans (Below.heap_setCell _ ⟨g,0,none⟩ _ b hne))
    simp only[World.cell?,this]
  have hni: ∀j k n,w.cell? ⟨g,j,none⟩≠some (.int k n):=fun j k n e=>by
    rw[hb.cell j] at e
    match j,e with
    | 0,e=>simp at e
    | 1,e=>simp at e
    | 2,e=>simp at e
    | j+3,e=>simp at e
  rw[hsz]
  rcases h with h | ⟨b,off,cap,e,hlt,hc⟩
  · exact .inl h
  · refine .inr ⟨b,off,cap,e,hlt,fun j hj=> ?_⟩
    obtain⟨pa,pk,pc,h1,h2,h3,h4⟩:=hc j hj
    have hne:b≠g:=fun e=>hni _ _ _ (by rw[←e];exact h1)
    refine⟨pa,pk,pc,(hk _ _ hne).trans h1,(hk _ _ hne).trans h2,(hk _ _ hne).trans h3,?_⟩
    rcases h4 with h4 | ⟨b2,off2,cap2,e2,hlt2,hc2⟩
    · exact .inl h4
    · refine .inr ⟨b2,off2,cap2,e2,hlt2,fun i hi=> ?_⟩
      have hne2:b2≠g:=fun e=>hni _ _ _ (by rw[←e];exact hc2 i hi)
      exact(hk _ _ hne2).trans (hc2 i hi)
set_option maxHeartbeats 4000000 in
set_option maxRecDepth 20000 in
theorem az2 (m e:ByteArray)(hm:m.size≤281474976710656)(he:e.size≤281474976710656)(w:World):Calls Tryz.prog 23 #[.string m,.string e] w fun r w'=>a16 m.data.toList e.data.toList w r w':=by
  have hb0:=(Below.refl w.heap.size w).alloc (Nat.le_refl _) (.cells #[.bool false,.slice none 0 0,.slice none 0 0] 67)
  have hn0:=Blk.new w 67 #[.bool false,.slice none 0 0,.slice none 0 0]
  go_enter Tryz.func23,Tryz.ntmps23
  go_wp2_with fail
  generalize w.alloc (.cells #[.bool false,.slice none 0 0,.slice none 0 0] 67)=W at hb0 hn0⊢
  refine(asx m hm W).mono ?_
  rintro r w1 ⟨hb1,hp1⟩
  cases h1:aaw m.data.toList with
  | error q=>
    obtain⟨why,line⟩:=q
    rw[h1] at hp1
    obtain rfl:r=_:=hp1
    have hy0:=apf h1
    have hy1:(why==0)=false:=by simpa using hy0
    have hy2:(why !=0)=true:=by simpa using hy0
    have hb2:=hb1.alloc hb1.size (.cells #[.slice none 0 0] 62)
    have hn2:=hn0.below hb2 hn0.lt
    have hbw:=hb0.trans (hb2.mono hb0.size)
    have HF:Hid (adu m.data.toList e.data.toList=.error (why,1,line)):=by show _=_;unfold adu;rw[h1]
    go_upto_region 2 with fail
    generalize w1.alloc (.cells #[.slice none 0 0] 62)=w2 at hb2 hn2 hbw⊢
    obtain⟨⟨r0,r1,r2⟩,rz0,rz1,rz2⟩:=abm hn2
    go_wp2_with fail
    refine bodyPost_ret (agk (hn2.set3 _ _ _) rfl rfl rfl rfl) rfl ?_
    exact⟨hbw.trans (abd (Nat.le_refl _)),.inl ⟨_,_,_,HF.out,rfl⟩⟩
  | ok q=>
    obtain⟨L,F⟩:=q
    rw[h1] at hp1
    obtain⟨da,dn,dc,rfl,hD1⟩:=hp1
    have hb2:=(Below.refl w1.heap.size w1).alloc (Nat.le_refl _) (.cells #[.slice da dn dc] 62)
    have hd2:=Blk.new w1 62 #[.slice da dn dc]
    have hD2:=hD1.go hb2
    have hb12:=hb1.trans (hb2.mono hb1.size)
    have hn2:=hn0.below hb12 hn0.lt
    have hbw:=hb0.trans (hb12.mono hb0.size)
    go_upto_region 2 with fail
    generalize w1.alloc (.cells #[.slice da dn dc] 62)=w2 at hb2 hd2 hD2 hb12 hn2 hbw⊢
    generalize w1.heap.size=DB at hd2⊢
    go_wp2_with fail
    refine(aqh e he w2).mono ?_
    rintro r w3 ⟨hb3,⟨why,line,h2,rfl⟩ | ⟨E,l,ta,tn,tc,h2,hri,hpe,rfl,hN3⟩⟩
    · have hy0:=alo h2
      have hy1:(why==0)=false:=by simpa using hy0
      have hy2:(why !=0)=true:=by simpa using hy0
      have hb4:=hb3.alloc hb3.size (.cells #[.slice none 0 0] 65)
      have hn4:=hn2.below hb4 hn2.lt
      have hbw4:=hbw.trans (hb4.mono hbw.size)
      have HF:Hid (adu m.data.toList e.data.toList=.error (why,2,line)):=by show _=_;unfold adu;rw[h1];simp only[h2]
      go_upto_region 5 with fail
      generalize w3.alloc (.cells #[.slice none 0 0] 65)=w4 at hb4 hn4 hbw4⊢
      obtain⟨⟨r0,r1,r2⟩,rz0,rz1,rz2⟩:=abm hn4
      go_wp2_with fail
      refine bodyPost_ret (agk (hn4.set3 _ _ _) rfl rfl rfl rfl) rfl ?_
      exact⟨hbw4.trans (abd (Nat.le_refl _)),.inl ⟨_,_,_,HF.out,rfl⟩⟩
    · have hb4:=(Below.refl w3.heap.size w3).alloc (Nat.le_refl _) (.cells #[.slice ta tn tc] 65)
      have ht4:=Blk.new w3 65 #[.slice ta tn tc]
      have hb34:=hb3.trans (hb4.mono hb3.size)
      have hN4:=hN3.go hb4
      have hlw:w.heap.size<w2.heap.size:=hn2.lt
      have hD4:=hD2.go hb34
      have hd4:=hd2.below hb34 hd2.lt
      have hn4:=hn2.below hb34 hn2.lt
      have hbw4:=hbw.trans (hb34.mono hbw.size)
      have HF:Hid (adu m.data.toList e.data.toList=.ok ((L,F),E)):=by show _=_;unfold adu;rw[h1];simp only[h2]
      go_upto_region 5 with fail
      generalize w3.alloc (.cells #[.slice ta tn tc] 65)=w4 at hb4 ht4 hN4 hD4 hd4 hn4 hbw4⊢
      generalize w3.heap.size=TB at ht4⊢
      obtain⟨⟨r0,r1,r2⟩,rz0,rz1,rz2⟩:=abm hn4
      have d0:w4.cell? ⟨DB,0,none⟩=some (.slice da dn dc):=hd4.cell 0
      have t0:w4.cell? ⟨TB,0,none⟩=some (.slice ta tn tc):=ht4.cell 0
      go_wp2_with fail
      refine bodyPost_ret (agk (hn4.set3 _ _ _) rfl rfl rfl rfl) rfl ?_
      refine⟨hbw4.trans (abd (Nat.le_refl _)),.inr ⟨L,F,E,l,_,_,_,_,_,_,HF.out,h1,hri,hpe,rfl,?_,?_⟩⟩
      · exact a3h hD4 hn4 _ _ _
      · obtain⟨ps,p1,p2,p3⟩:=((hN4.set (p:=⟨w.heap.size,0,none⟩) hlw (.bool true)).set (p:=⟨w.heap.size,1,none⟩) hlw (.slice da dn dc)).set (p:=⟨w.heap.size,2,none⟩) hlw (.slice ta tn tc)
        exact⟨ps,aai p1 (by omega),fun x hx=>⟨(p2 x hx).1.mono (by omega),aai (p2 x hx).2 (by omega)⟩,p3⟩
theorem a5f {m e:List UInt8}{L:List Mk}{F:Int→List Int}{E:List Ent}(h:adu m e=.ok ((L,F),E)):aaw m=.ok (L,F)∧ab9 e=.ok E:=by
 unfold adu at h
 cases hm:aaw m with
 | error q=>obtain⟨a,b⟩:=q;rw[hm] at h;cases h
 | ok d=>
  rw[hm] at h
  cases ht:ab9 e with
  | error q=>obtain⟨a,b⟩:=q;rw[ht] at h;cases h
  | ok E'=>rw[ht] at h;cases h;exact⟨rfl,rfl⟩
theorem a3p {m e:List UInt8}{why which line:Int}(h:adu m e=.error (why,which,line)):why≠0:=by
 unfold adu at h
 cases hm:aaw m with
 | error q=>obtain⟨a,b⟩:=q;rw[hm] at h;cases h;exact apf hm
 | ok d=>
  rw[hm] at h
  cases ht:ab9 e with
  | error q=>obtain⟨a,b⟩:=q;rw[ht] at h;cases h;exact alo ht
  | ok E'=>rw[ht] at h;cases h
theorem atf {t:List UInt8}{L:List Mk}{E:Int→List Int}(h:aaw t=.ok (L,E)):(aag L).length≤1048576∧ ∀m∈aag L,m.parts.length≤65536:=by
 obtain⟨hlen,hl,_⟩:=acx h
 obtain⟨hok,hnd,h4096,hsum,_⟩:=abc hlen hl
 have hperm:=ae3 hnd
 have hmay: ∀m∈aag L,afd m=true:=fun m hm=>by
  obtain⟨x,hx,rfl⟩:=List.mem_map.1 (hperm.subset hm)
  exact a85 (hok x hx)
 have hlens:aen (aag L)≤t.length+1:=by
  rw[ans hperm]
  have:=alp _ _ _ _ hl
  rw[apu] at this
  simpa[aen] using this
 refine⟨by rw[hperm.length_eq,List.length_map];omega,fun m hm=> ?_⟩
 have h1:(adb m).length+1≤aen (aag L):=by
  obtain⟨a,b,e⟩:=List.append_of_mem hm
  rw[e];simp[aen];omega
 obtain⟨u,c,us,e1,hu,hc,hus,e2⟩:=ag6 (hmay m hm)
 have h2:=avn us
 have h3:m.parts.length=us.length:=by rw[e1];simp
 have h7:(aba us).length≤(adb m).length:=by rw[e2];simp[af1];omega
 omega
theorem anq {s:List UInt8}{E:List Ent}(h:ab9 s=.ok E):s.length≤65536:=by
 unfold ab9 at h
 split at h
 ·cases h
 ·omega
theorem axv {s:List UInt8}{E l:List Ent}(h:ab9 s=.ok E)(hp:l.Perm E)(hr:akp l):ai0 l=.ok (ad2 l)∧(ad2 l).length≤s.length∧l.length≤4096∧ ∀x∈l,x.1.length≤1048576∧x.2.length≤1048576:=by
 obtain⟨h1,h2,h3⟩:=ai4 h
 have q: ∀x∈l,EntOk x:=fun x hx=>h1 x (hp.mem_iff.1 hx)
 have hs:=ah4 h hp
 have hl:l.length≤4096:=by rw[hp.length_eq];exact h3
 refine⟨ay8 q hr hl (Nat.le_trans hs (anq h)),hs,hl,fun x hx=>⟨?_,?_⟩⟩
 ·have:=(abf (q x hx).row).2;omega
 ·have:=(q x hx).n1;omega
theorem arh {E:List Ent}(hnd:(E.map Prod.fst).Nodup){x:Ent}(h:x∈E):aep E x.1=some x.2:=by
 induction E with
 | nil=>cases h
 | cons a r ih=>
  rw[List.map_cons,List.nodup_cons] at hnd
  unfold aep
  rw[List.find?_cons]
  rcases List.mem_cons.1 h with rfl | h
  ·simp
  ·have hne:a.1≠x.1:=fun e=>hnd.1 (by rw[e];exact List.mem_map_of_mem h)
   have hb:(a.1==x.1)=false:=by simpa using hne
   rw[hb]
   exact ih hnd.2 h
theorem an3 {E:List Ent}{p:List Int}(h: ∀x∈E,x.1≠p):aep E p=none:=by
 unfold aep
 rw[Option.map_eq_none_iff,List.find?_eq_none]
 intro x hx
 simpa using h x hx
theorem axs {l E:List Ent}(hp:l.Perm E)(hnd:(E.map Prod.fst).Nodup)(p:List Int):aep l p=aep E p:=by
 by_cases h: ∃x∈E,x.1=p
 ·obtain⟨x,hx,rfl⟩:=h
  rw[arh hnd hx,arh ((hp.map Prod.fst).nodup_iff.2 hnd) (hp.mem_iff.2 hx)]
 ·have h2: ∀x∈E,x.1≠p:=fun x hx e=>h ⟨x,hx,e⟩
  rw[an3 h2,an3 fun x hx=>h2 x (hp.mem_iff.1 hx)]
theorem a4c {s:List UInt8}{E l:List Ent}(h:ab9 s=.ok E)(hp:l.Perm E):ach l=ach E∧av2 l=av2 E:=by
 obtain⟨_,h2,_⟩:=ai4 h
 have q: ∀p,aep l p=aep E p:=axs hp h2
 exact⟨funext fun p=>by unfold ach;rw[q],funext fun p=>by unfold av2;rw[q]⟩
theorem aoq {tmps:Array Value}{w:World}{a b:Value}(t2:tmps[2]?.getD undef=a)(t3:tmps[3]?.getD undef=b):(results Tryz.f21 tmps).run Tryz.prog w=.ok (.tuple #[a,b]) w:=by
 simp[results,Tryz.results21,go_sem,t2,t3]
def a5o (t1 t2:List UInt8)(w:World)(e:Ending)(w':World):Prop:=e=.returned (.tuple #[.string (bsz t1),.string (bsz t2)])∧Below w.heap.size w w'
theorem a3o {m e:List UInt8}{L:List Mk}{F:Int→List Int}{E:List Ent}(h1:aaw m=.ok (L,F))(h2:ab9 e=.ok E):adu m e=.ok ((L,F),E):=by
 unfold adu
 rw[h1]
 simp only
 rw[h2]
theorem ark {e:List UInt8}{E l:List Ent}(hT:ab9 e=.ok E)(hp:l.Perm E):ab9 (ad2 l)=.ok l:=by
 obtain⟨h1,h2,h3⟩:=ai4 hT
 refine atp (fun x hx=>h1 x (hp.mem_iff.1 hx)) ((hp.map Prod.fst).nodup_iff.2 h2) (by rw[hp.length_eq];exact h3) ?_
 have q1:=ah4 hT hp
 have q2:=anq hT
 omega
set_option maxHeartbeats 4000000 in
set_option maxRecDepth 20000 in
theorem am3 {m e:List UInt8}{b bd T:Nat}{L:List Mk}{F:Int→List Int}{E:List Ent}{w:World}(hl:adu m e=.ok ((L,F),E))(h:TbAt w b bd T L F E)(htb:Tb w w.heap.size){s:List UInt8}(hs:afi (aag L)=.ok s):
  Calls Tryz.prog 21 #[.pointer (some ⟨b,0,none⟩)] w fun e w'=> ∃l,l.Perm E∧akp l∧a5o s (ad2 l) w e w':=by
 obtain⟨hR,hT⟩:=a5f hl
 obtain⟨q1,q2⟩:=atf hR
 have c0:w.cell? ⟨b,0,none⟩=some (.pointer (some ⟨bd,0,none⟩)):=h.blk.cell 0
 have c1:w.cell? ⟨b,1,none⟩=some (.pointer (some ⟨T,0,none⟩)):=h.blk.cell 1
 have hbl:=h.blk.lt
 go_enter Tryz.func21,Tryz.ntmps21
 go_wp2_with fail
 refine(azu bd L F w h.data).mono ?_
 rintro e1 w1 ⟨a,k,cap,ps,rfl,hown,hps,hb1⟩
 have hin:MIn w1.heap.size w1 (.slice a k cap) (aag L):=hps▸hown.min
 have htb1:Tb w1 w1.heap.size:=(htb.below hb1).up hb1.size
 have hpr:=ay7 (aag L) (by omega) (fun x hx=>by have:=q2 x hx;omega) (.slice a k cap) w1.heap.size w1 (Nat.le_refl _) hin htb1
 rw[hs] at hpr
 clear hown hps hin c0
 go_wp2_with fail
 refine hpr.mono ?_
 rintro e2 w2 ⟨rfl,hb2⟩
 have hb02:=hb1.trans (hb2.mono hb1.size)
 have d1:=(hb02.cell (p:=⟨b,1,none⟩) hbl).trans c1
 obtain⟨me,ml,val,ht⟩:=(h.below hb02).tab
 have hen:=aua T me ml val E w2 ht (ai4 hT).2.2 (ai4 hT).2.1
 have htb2:Tb w2 w2.heap.size:=(htb1.below hb2).up hb2.size
 clear hpr c1
 simp only[ava]
 go_wp2_with fail
 refine hen.mono ?_
 clear hen d1
 rintro e3 w3 ⟨v,vs,es,rfl,hes,hre,hpe,hb3⟩
 obtain⟨p1,_,p3,p4⟩:=axv hT hpe hre
 have htb3:Tb w3 w3.heap.size:=(htb2.below hb3).up hb3.size
 have hpt:=awt es (by omega) (fun x hx=>by have:=p4 x hx;omega) v w3.heap.size w3 (Nat.le_refl _) hes.inn htb3.h6 htb3.tz
 rw[p1] at hpt
 obtain⟨va,vc,rfl⟩:=hes.inn.val
 have hb03:=hb02.trans (hb3.mono hb02.size)
 clear hes ht
 go_wp2_with fail
 refine hpt.mono ?_
 rintro e4 w4 ⟨rfl,hb4⟩
 simp only[ava]
 go_wp2_with fail
 refine bodyPost_ret (aoq rfl rfl) rfl ?_
 exact⟨es,hpe,hre,rfl,hb03.trans (hb4.mono hb03.size)⟩
end Go.Proofs.YtfhpgmlfgjfknaaGreatDoor
