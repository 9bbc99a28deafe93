/- Contracts and lemmas (nothing is claimed here). -/
import Derived.Test.YtpfkoldfbecdlaaGreatDoorJ10
import Derived.Test.YtpfkoldfbecdlaaGreatDoorJ4
import Derived.Test.YtpfkoldfbecdlaaGreatDoorJ7
import Derived.Test.YtpfkoldfbecdlaaGreatDoorJ8
namespace Go.Proofs.YtpfkoldfbecdlaaGreatDoor
open Go.RowKit Go.Vf
def OkTo (k:Nat)(l:List UInt8)(j:Nat):Prop:=(2≤j→secB k l=true)∧ ∀i,2≤i→i<j→ae8 (l[i]?.getD 0)=true
def AccB (a j:Nat):Prop:=a≤67375167∧(j≤3→a≤1052735)∧(j≤2→a≤16447)∧(j≤1→a≤255)
theorem AccB.next {a b j c:Nat}(h:AccB a j)(hj0:1≤j)(hj:j≤3)(hb:b≤191)(e:c=a*64+(b-128)):AccB c (j+1):=by
 obtain⟨h1,h2,h3,h4⟩:=h
 have g2:=h2 hj
 refine⟨by omega,fun h=> ?_,fun h=> ?_,fun h=>absurd h (by omega)⟩
 ·have g3:=h3 (by omega)
  omega
 ·have g4:=h4 (by omega)
  omega
theorem ok_bad {k:Nat}{l:List UInt8}{z j:Nat}(hw:abg k l=(secB k l&&((l.take z).drop 2).all ae8))(hz:z≤l.length)(hlh:128≤(aag k).low∧(aag k).high≤191)(hj:1≤j)(hjz:j<z)
  (hb:(l[j]?.getD 0).toNat<128∨191<(l[j]?.getD 0).toNat):abg k l=false:=by
 cases h:abg k l with
 | false=>rfl
 | true=>
  rw[hw,Bool.and_eq_true,tail_all hz] at h
  rcases Nat.lt_or_ge 1 j with h2 | h2
  ·have h3:=h.2 j h2 hjz
   rw[ae8,Bool.and_eq_true,decide_eq_true_eq,decide_eq_true_eq] at h3
   omega
  ·have h3:=h.1
   obtain rfl:j=1:=by omega
   rw[secB,Bool.and_eq_true,decide_eq_true_eq,decide_eq_true_eq] at h3
   omega
theorem ok_next {k:Nat}{l:List UInt8}{j:Nat}(h:OkTo k l j)(hj:2≤j)(h1:128≤(l[j]?.getD 0).toNat)(h2:(l[j]?.getD 0).toNat≤191):OkTo k l (j+1):=
 ⟨fun _=>h.1 hj,fun n g1 g2=>by
  rcases Nat.lt_or_ge n j with h3 | h3
  ·exact h.2 n g1 h3
  ·obtain rfl:n=j:=by omega
   rw[ae8,Bool.and_eq_true,decide_eq_true_eq,decide_eq_true_eq]
   exact⟨h1,h2⟩⟩
set_option maxHeartbeats 2000000 in
set_option maxRecDepth 20000 in
theorem one_any (s:ByteArray)(at_:Nat)(hat:at_<s.size)(hs:s.size≤4294967296)(w:World):
  Calls Tryz.prog 91 #[.string s,.int .i64 (at_:Int)] w fun e w'=>e=.returned (.tuple #[.int .i64 ((oneN (s.data.toList.drop at_)).1:Int),.int .i64 ((oneN (s.data.toList.drop at_)).2:Int)])∧w=w':=by
 obtain⟨l,hl⟩: ∃l,l=s.data.toList.drop at_:=⟨_,rfl⟩
 rw[←hl]
 have hget: ∀i (h:at_+i<s.size),l[i]?.getD 0=s[at_+i]:=fun i h=>by
  rw[hl,List.getElem?_drop,list_get s (at_+i) h];rfl
 have hll:l.length=s.size-at_:=by rw[hl,List.length_drop,←Lib.size_eq]
 have hg0:l[0]?.getD 0=s[at_]:=hget 0 hat
 obtain⟨A,B,hAB⟩: ∃A B,oneN l=(A,B):=⟨_,_,rfl⟩
 rw[hAB]
 have HAB:Hid (oneN l=(A,B)):=hAB
 have hln:longN s[at_].toNat=(match adm s[at_].toNat with | some k=>(aag k).size | none=>0):=rfl
 have h256:s[at_].toNat<256:=s[at_].toNat_lt
 clear hl hAB
 cases hrow:adm s[at_].toNat with
 | none=>
  have e0:A=0∧B=0:=by
   have:=HAB.out
   unfold oneN at this
   rw[hg0,hrow] at this
   simp at this
   exact⟨this.1.symm,this.2.symm⟩
  obtain⟨rfl,rfl⟩:=e0
  rw[hrow] at hln
  have hln':longN s[at_].toNat=0:=hln
  clear hrow hln hget hg0
  go_enter Tryz.func91,Tryz.ntmps91
  go_wp2_with fail
  refine(long_any s[at_].toNat w).mono ?_
  rintro e w1 ⟨rfl,rfl⟩
  rw[hln']
  go_wp2
  refine bodyPost_ret (ab3 rfl rfl) rfl ?_
  exact⟨rfl,rfl⟩
 | some k=>
  obtain⟨hk9,hf1,hf2⟩:=rowB_lt hrow
  have HROW:Hid (adm s[at_].toNat=some k):=hrow
  have hz1:1≤(aag k).size∧(aag k).size≤4:=by rcases acd hk9 with rfl | rfl | rfl | rfl | rfl | rfl | rfl | rfl | rfl<;>simp[aag]
  rw[hrow] at hln
  have hln':longN s[at_].toNat=(aag k).size:=hln
  have hAB2:(if abg k l then (aga (l.take (aag k).size) (aag k).size,(aag k).size) else (0,0))=(A,B):=by
   have:=HAB.out
   unfold oneN at this
   rw[hg0,hrow] at this
   exact this
  obtain⟨z,hz⟩: ∃z,z=(aag k).size:=⟨_,rfl⟩
  rw[←hz] at hz1 hln' hAB2
  have HZ:Hid (z=(aag k).size):=hz
  clear hrow hln HAB hz
  by_cases hfit:at_+z≤s.size
  ·have hlz:z≤l.length:=by omega
   have htz:(l.take z).length=z:=by rw[List.length_take];omega
   obtain⟨L,hL⟩: ∃L,L=l.take z:=⟨_,rfl⟩
   rw[←hL] at hAB2 htz
   have hLg: ∀i (h:i<z),L[i]?.getD 0=s[at_+i]'(by omega):=fun i h=>by
    have h2:L[i]? =l[i]?:=by rw[hL,List.getElem?_take,if_pos h]
    rw[h2];exact hget i (by omega)
   have hA1:aga L 1=s[at_].toNat-adc z:=by
    show(L[0]?.getD 0).toNat-adc L.length=_
    rw[hLg 0 (by omega),htz]
    rfl
   have hAs: ∀j,j+1<z→ ∀(h:at_+(j+1)<s.size),aga L (j+2)=aga L (j+1)*64+(s[at_+(j+1)].toNat-128):=fun j hj h=>by
    show aga L (j+1)*64+((L[j+1]?.getD 0).toNat-128)=_
    rw[hLg (j+1) hj]
   have hwh:abg k l=((decide (z≤1)||secB k l)&&((l.take z).drop 2).all ae8):=by
    unfold abg
    rw[←HZ.out,decide_eq_true hlz,Bool.true_and]
   rcases(show z=1∨2≤z by omega) with hz | hz2
   ·have hw1:abg k l=true:=by
     rw[hwh,hz,List.drop_eq_nil_of_le (by simp;omega)]
     simp
    rw[hw1] at hAB2
    simp only[if_true,Prod.mk.injEq] at hAB2
    obtain⟨rfl,rfl⟩:=hAB2
    subst hz
    rw[hA1]
    have hh:s[at_].toNat-adc 1=s[at_].toNat:=by simp[adc]
    rw[hh]
    clear hwh hAs hA1 hLg hL hget hg0 hf1 hf2 hw1 hh
    go_enter Tryz.func91,Tryz.ntmps91
    go_wp2_with fail
    refine(long_any s[at_].toNat w).mono ?_
    rintro e w1 ⟨rfl,rfl⟩
    rw[hln']
    go_wp2
    refine bodyPost_ret (ab3 rfl rfl) rfl ?_
    exact⟨rfl,rfl⟩
   ·have hwh2:abg k l=(secB k l&&((l.take z).drop 2).all ae8):=by
     rw[hwh,show decide (z≤1)=false by simp;omega]
     simp
    have HAS:Hid (∀j,j+1<z→ ∀(h:at_+(j+1)<s.size),aga L (j+2)=aga L (j+1)*64+(s[at_+(j+1)].toNat-128)):=hAs
    have hkz:2≤(aag k).size:=by rw[←HZ.out];exact hz2
    have hlh:128≤(aag k).low∧(aag k).high≤191:=by
     rcases acd hk9 with rfl | rfl | rfl | rfl | rfl | rfl | rfl | rfl | rfl<;>simp only[aag] at hkz⊢ <;>omega
    have hmod:(z=2→s[at_].toNat % 32=aga L 1)∧(z=3→s[at_].toNat % 16=aga L 1)∧(z=4→s[at_].toNat % 8=aga L 1)∧aga L 1≤255:=by
     have HZ':=HZ.out
     rw[hA1]
     refine⟨fun h=> ?_,fun h=> ?_,fun h=> ?_,by omega⟩
     ·rw[h];show _=s[at_].toNat-192
      rw[h] at HZ'
      rcases acd hk9 with rfl | rfl | rfl | rfl | rfl | rfl | rfl | rfl | rfl<;>simp only[aag] at hf1 hf2 HZ'<;>omega
     ·rw[h];show _=s[at_].toNat-224
      rw[h] at HZ'
      rcases acd hk9 with rfl | rfl | rfl | rfl | rfl | rfl | rfl | rfl | rfl<;>simp only[aag] at hf1 hf2 HZ'<;>omega
     ·rw[h];show _=s[at_].toNat-240
      rw[h] at HZ'
      rcases acd hk9 with rfl | rfl | rfl | rfl | rfl | rfl | rfl | rfl | rfl<;>simp only[aag] at hf1 hf2 HZ'<;>omega
    obtain⟨m2,m3,m4,hb1⟩:=hmod
    have hF0:abg k l=false→A=0∧B=0:=fun h=>by
     rw[h] at hAB2
     simp at hAB2
     exact⟨hAB2.1.symm,hAB2.2.symm⟩
    have HBAD:Hid (∀i (h:at_+(i+1)<s.size),i+1<z→(s[at_+(i+1)].toNat<128∨191<s[at_+(i+1)].toNat)→A=0∧B=0):=fun i h h1 h2=>by
     rw[←hget (i+1) h] at h2
     exact hF0 (ok_bad hwh2 hlz hlh (by omega) h1 h2)
    have HSEC0:Hid (secB k l=false→A=0∧B=0):=fun h=>hF0 (by rw[hwh2,h];rfl)
    have HSECV:Hid (∀i (h:at_+(i+1)<s.size),i=0→(decide ((aag k).low≤s[at_+(i+1)].toNat)&&decide (s[at_+(i+1)].toNat≤(aag k).high))=secB k l):=fun i h h0=>by
     subst h0
     rw[secB,hget 1 h]
    have HNEXT:Hid (∀i (h:at_+(i+1)<s.size),OkTo k l (i+1)→1≤i→128≤s[at_+(i+1)].toNat→s[at_+(i+1)].toNat≤191→OkTo k l (i+2)):=fun i h h0 h1 h2 h3=>by
     rw[←hget (i+1) h] at h2 h3
     exact ok_next h0 (by omega) h2 h3
    have HEND:Hid (OkTo k l z→A=aga L z∧B=z):=fun h=>by
     have hw:abg k l=true:=by rw[hwh2,Bool.and_eq_true,tail_all hlz];exact⟨h.1 hz2,h.2⟩
     rw[hw] at hAB2
     simp only[if_true,Prod.mk.injEq] at hAB2
     exact⟨hAB2.1.symm,hAB2.2.symm⟩
    have hac0:AccB (aga L 1) 1:=⟨by omega,fun _=>by omega,fun _=>by omega,fun _=>by omega⟩
    clear hwh hwh2 hAs hA1 hLg hL hget hg0 hf1 hf2 hAB2 hF0
    have hz1':((z:Int)==1)=false:=by simp;omega
    have hz0':((z:Int)==0)=false:=by simp;omega
    have hfit':decide ((s.size:Int)<(at_:Int)+(z:Int))=false:=by simp;omega
    have hmid:(((z:Int)==3)=false∧((z:Int)==4)=false∧(s[at_].toNat:Int) % 32=(aga L 1:Int))∨(((z:Int)==3)=true∧((z:Int)==4)=false∧(s[at_].toNat:Int) % 16=(aga L 1:Int))∨(((z:Int)==3)=false∧((z:Int)==4)=true∧(s[at_].toNat:Int) % 8=(aga L 1:Int)):=by
     rcases(show z=2∨z=3∨z=4 by omega) with h | h | h
     ·exact .inl ⟨by rw[h];decide,by rw[h];decide,by have:=m2 h;omega⟩
     ·exact .inr (.inl ⟨by rw[h];decide,by rw[h];decide,by have:=m3 h;omega⟩)
     ·exact .inr (.inr ⟨by rw[h];decide,by rw[h];decide,by have:=m4 h;omega⟩)
    clear m2 m3 m4
    rcases hmid with ⟨q1,q2,q3⟩ | ⟨q1,q2,q3⟩ | ⟨q1,q2,q3⟩
    all_goals
     go_enter Tryz.func91,Tryz.ntmps91
     go_wp2_with fail
     refine(long_any s[at_].toNat w).mono ?_
     rintro e w1 ⟨rfl,rfl⟩
     rw[hln']
     go_wp2
     go_loopw [8,9] (fun n i wr=> ∃j:Nat,1≤j∧j≤z∧i=.int .i64 j∧n=.int .i64 ((aga L j:Nat):Int)∧AccB (aga L j) j∧OkTo k l j∧wr=w) (fun _ i _=>z-(intOf i).toNat)
     case atStart=>exact⟨1,by omega,by omega,rfl,by rw[q3],hac0,⟨fun h=>absurd h (by decide),fun i h1 h2=>absurd h2 (by omega)⟩,rfl⟩
     case round=>
      obtain⟨j,hj1,hj2,rfl,rfl,hac,hok,rfl⟩:=hrel
      clear q3
      rcases Nat.lt_or_ge j z with hlt | hge
      ·obtain⟨i,rfl⟩: ∃i,j=i+1:=⟨j-1,by omega⟩
       have hai:at_+(i+1)<s.size:=by omega
       have h256i:(s[at_+(i+1)]'hai).toNat<256:=(s[at_+(i+1)]'hai).toNat_lt
       by_cases t1:(s[at_+(i+1)]'hai).toNat<128
       ·obtain⟨rfl,rfl⟩:=HBAD.out i hai hlt (.inl t1)
        clear HEND HNEXT HSECV HSEC0 HBAD HAS hac
        go_wp2
        refine bodyPost_ret (ab3 rfl rfl) rfl ?_
        exact⟨rfl,rfl⟩
       ·by_cases t2:191<(s[at_+(i+1)]'hai).toNat
        ·obtain⟨rfl,rfl⟩:=HBAD.out i hai hlt (.inr t2)
         clear HEND HNEXT HSECV HSEC0 HBAD HAS hac
         go_wp2_with fail
         refine bodyPost_ret (ab3 rfl rfl) rfl ?_
         exact⟨rfl,rfl⟩
        ·have HE:Hid (aga L (i+2)=aga L (i+1)*64+((s[at_+(i+1)]'hai).toNat-128)):=HAS.out i hlt hai
         have hbd:=hac.1
         have hac2:AccB (aga L (i+2)) (i+2):=hac.next (by omega) (by omega) (by omega) HE.out
         rcases Nat.eq_zero_or_pos i with hi0 | hi0
         ·have g1:(((i:Int)+1)==1)=true:=by rw[hi0];decide
          have HV:=HSECV.out i hai hi0
          have HV2:Hid ((decide ((aag k).low≤(s[at_+(i+1)]'hai).toNat)&&decide ((s[at_+(i+1)]'hai).toNat≤(aag k).high))=secB k l):=HV
          have hok2:secB k l=true→OkTo k l (i+2):=fun h=>⟨fun _=>h,fun n h1 h2=>absurd h2 (by omega)⟩
          clear HV hi0 hok
          cases hsb:secB k l with
          | false=>
           obtain⟨rfl,rfl⟩:=HSEC0.out hsb
           have HSB:Hid (secB k l=false):=hsb
           clear hsb HEND HNEXT HSECV HSEC0 HBAD HAS hok2
           go_wp2_with fail
           refine(second_any s[at_].toNat _ k HROW.out hkz _).mono ?_
           rintro e w1 ⟨rfl,rfl⟩
           rw[HV2.out,HSB.out]
           go_wp2
           refine bodyPost_ret (ab3 rfl rfl) rfl ?_
           exact⟨rfl,rfl⟩
          | true=>
           have HSB:Hid (secB k l=true):=hsb
           have hok3:=hok2 hsb
           clear hsb HEND HNEXT HSECV HSEC0 HBAD HAS hok2
           go_wp2_with fail
           refine(second_any s[at_].toNat _ k HROW.out hkz _).mono ?_
           rintro e w1 ⟨rfl,rfl⟩
           rw[HV2.out,HSB.out]
           go_wp2
           go_roundw
           case rel=>exact⟨i+2,by omega,by omega,by go_num,by rw[HE.out];go_num,hac2,hok3,trivial⟩
           case measure=>simp[intOf];omega
         ·have g1:(((i:Int)+1)==1)=false:=by simp;omega
          have hok3:=HNEXT.out i hai hok hi0 (by omega) (by omega)
          clear HEND HNEXT HSECV HSEC0 HBAD HAS hok
          go_wp2
          go_roundw
          case rel=>exact⟨i+2,by omega,by omega,by go_num,by rw[HE.out];go_num,hac2,hok3,trivial⟩
          case measure=>simp[intOf];omega
      ·obtain rfl:j=z:=Nat.le_antisymm hj2 hge
       obtain⟨rfl,rfl⟩:=HEND.out hok
       clear HEND HNEXT HSECV HSEC0 HBAD HAS hok
       go_wp2
       refine bodyPost_ret (ab3 rfl rfl) rfl ?_
       exact⟨rfl,rfl⟩
  ·have e0:A=0∧B=0:=by
    have:abg k l=false:=by unfold abg;rw[←HZ.out,hll];simp;omega
    rw[this] at hAB2
    simp at hAB2
    exact⟨hAB2.1.symm,hAB2.2.symm⟩
   obtain⟨rfl,rfl⟩:=e0
   clear hAB2 hget hg0 hf1 hf2
   have hz0:((z:Int)==0)=false:=by simp;omega
   go_enter Tryz.func91,Tryz.ntmps91
   go_wp2_with fail
   refine(long_any s[at_].toNat w).mono ?_
   rintro e w1 ⟨rfl,rfl⟩
   rw[hln']
   go_wp2
   refine bodyPost_ret (ab3 rfl rfl) rfl ?_
   exact⟨rfl,rfl⟩
set_option maxHeartbeats 1000000 in
set_option maxRecDepth 20000 in
theorem refCheck_any (s:ByteArray)(hsz:s.size≤4294967296)(ps:List Nat)(rest:List UInt8)(hs:s.data.toList=ac5 ps++rest)(hps: ∀p∈ps,ag9 p)(hrest:rest=[]∨ag7 rest)(w:World):
  Calls Tryz.prog 90 #[.string s] w fun e w'=>e=.returned (.int .i64 (chkOf ps rest))∧w=w':=by
 have HS:Hid (s.data.toList=ac5 ps++rest):=hs
 obtain⟨C,HC⟩: ∃C,Hid (C=chkOf ps rest):=⟨_,rfl⟩
 rw[←HC.out]
 clear hs
 go_enter Tryz.func90,Tryz.ntmps90
 go_wp2
 go_loopw [3] (fun i wr=> ∃(ps1 ps2:List Nat) (k:Nat),Hid (ps=ps1++ps2∧k=(ac5 ps1).length)∧k≤s.size∧i=.int .i64 k∧wr=w) (fun i _=>s.size-(intOf i).toNat)
 case atStart=>exact⟨[],ps,0,⟨rfl,rfl⟩,Nat.zero_le _,rfl,rfl⟩
 case round=>
  obtain⟨ps1,ps2,k,HP,hk,rfl,rfl⟩:=hrel
  by_cases hlt:k<s.size
  ·cases ps2 with
   | nil=>
    have hdrop:s.data.toList.drop k=rest:=by rw[HS.out,HP.out.1,HP.out.2,List.append_nil,List.drop_left]
    have hne:rest≠ []:=by
     intro h
     have:=congrArg List.length hdrop
     rw[h,List.length_drop,←Lib.size_eq] at this
     simp at this
     omega
    have h1:oneN (s.data.toList.drop k)=(0,0):=by rw[hdrop];exact oneN_none (hrest.resolve_left hne)
    have hC:C=(k:Int):=by rw[HC.out,chkOf,if_neg hne,HP.out.1,List.append_nil,←HP.out.2]
    have H1:Hid (oneN (s.data.toList.drop k)=(0,0)):=h1
    clear h1 hdrop
    go_wp2_with fail
    refine(one_any s k hlt hsz _).mono ?_
    rintro e w1 ⟨rfl,rfl⟩
    rw[H1.out]
    go_wp2
    go_ret
    exact⟨by first | (rw[hC];rfl) | rfl,rfl⟩
   | cons p ps2=>
    have hp:ag9 p:=hps p (by rw[HP.out.1];simp)
    have hdrop:s.data.toList.drop k=enc p++(ac5 ps2++rest):=by
     rw[HS.out,HP.out.1,HP.out.2,abu,List.append_assoc,List.drop_left];simp[ac5]
    obtain⟨z,hz⟩: ∃z,z=(enc p).length:=⟨_,rfl⟩
    have h1:oneN (s.data.toList.drop k)=(p,z):=by rw[hdrop,hz];exact oneN_enc hp _
    have hz1:1≤z∧z≤4:=by rw[hz];exact⟨agp p,enc_le p⟩
    have hfit:k+z≤s.size:=by
     have:=congrArg List.length hdrop
     rw[List.length_drop,←Lib.size_eq,List.length_append,←hz] at this
     omega
    have HP2:Hid (ps=(ps1++[p])++ps2∧k+z=(ac5 (ps1++[p])).length):=by
     refine⟨by rw[HP.out.1];simp,?_⟩
     rw[abu,List.length_append,←HP.out.2,hz];simp[ac5]
    have H1:Hid (oneN (s.data.toList.drop k)=(p,z)):=h1
    have hz0:((z:Int)==0)=false:=by simp;omega
    clear h1 hdrop hz HP
    go_wp2_with fail
    refine(one_any s k hlt hsz _).mono ?_
    rintro e w1 ⟨rfl,rfl⟩
    rw[H1.out]
    go_wp2
    go_roundw
    case rel=>exact⟨ps1++[p],ps2,k+z,HP2,hfit,by go_num,trivial⟩
    case measure=>simp[intOf];omega
  ·have hend:rest=[]:=by
    have h1:=Lib.size_eq s
    rw[HS.out,HP.out.1,abu,List.append_assoc,List.length_append,←HP.out.2,List.length_append] at h1
    exact List.eq_nil_of_length_eq_zero (by omega)
   have hC:C= -1:=by rw[HC.out,chkOf,if_pos hend]
   go_wp2
   go_ret
   exact⟨by first | (rw[hC];rfl) | rfl,rfl⟩
theorem aa9 {w:World}{ops:Array Oper}{rest:List Oper}{o:Oper}{a:Act}{Q:Exit→Act→World→Prop}(hgd:o.guard=none)(s x:Operand)
  (ho:o.op=.call {callee:=.builtin .append,args:= #[s,x],argTypes:= #[90,90]})
  (base:Nat) (v:Value) (zs:List Int) (hs:a.eval s=v) (hown:IOwn w base v zs) (n:Int) (c:Nat) (hx:a.eval x=.slice (some ⟨w.heap.size,0,none⟩) 1 c)
  (hlen:zs.length≤1099511627776) (hbase:base≤w.heap.size) (B:Nat) (w0:World) (hb:Below B w0 w) (hB:B≤base)
  (h: ∀v' w',IOwn w' base v' (zs++[n])→Below B w0 w'→base≤w'.heap.size→w.grownBy w' v.ownBlock→wpList Tryz.prog ops Q rest (a.put o.dst v') w'):
  wpList Tryz.prog ops Q (o::rest) a (w.alloc (.cells #[.int .i64 n] 3)):=by
 obtain⟨i,hi,hz,hsz,hby⟩:=info_parts info3
 refine wpList_append_own (P:=Tryz.prog) _ hgd s x 90 ho base 3 i (.int .i64 0) 1 8 Tryz.underlying90 hi hz hsz hby rfl (by decide) v zs.length (zs.map (Value.int .i64)) hs (World.ownsRow.alloc hown _) ⟨w.heap.size,0,none⟩ 1 c [.int .i64 n] hx rfl ?_ ?_ ?_ ?_ ?_ ?_
 ·intro j u hj
  match j,hj with
  | 0,hj=>simp at hj;subst hj;simp[Addr.add]
 ·intro u hu;simp at hu;subst hu;rfl
 ·unfold maxLen;omega
 ·omega
 ·simp;omega
 ·intro v' w' h1 h2 _
  have hg:w.grownBy w' v.ownBlock:=by
   refine⟨h2.os.trans rfl,h2.tape.trans rfl,h2.output.trans rfl,by have:=h2.size;simp at this;omega,fun k hk hne=> ?_⟩
   exact(h2.block k (by simp;omega) hne).trans (Below.heap_alloc w _ k hk)
  refine h v' w' ?_ ?_ ?_ hg
  ·unfold IOwn
   rw[List.map_append,List.length_append]
   exact h1
  ·exact(hb.alloc (by omega) _).grown h2 (by simp;omega) (fun k hk=>by
    have:=(aah (World.ownsRow.alloc hown (.cells #[.int .i64 n] 3)) hk).1
    omega)
  ·have:=h2.size;simp at this;omega
theorem results13_run {tmps:Array Value}{w:World}{a:Option Addr}{l c:Nat}{e n:Int}(t2:tmps[2]?.getD undef=.slice a l c)(t3:tmps[3]?.getD undef=.int .i64 e)(t4:tmps[4]?.getD undef=.int .i64 n):
  (results Tryz.f38 tmps).run Tryz.prog w=.ok (.tuple #[.slice a l c,.int .i64 e,.int .i64 n]) w:=by
 simp[results,Tryz.results38,go_sem,t2,t3,t4]
set_option maxHeartbeats 1000000 in
set_option maxRecDepth 20000 in
theorem adf (s:ByteArray)(hsz:s.size≤4294967296)(ps:List Nat)(rest:List UInt8)(hs:s.data.toList=ac5 ps++rest)(hps: ∀p∈ps,ag9 p)(hrest:rest=[]∨ag7 rest)(w:World):
  Calls Tryz.prog 38 #[.string s] w fun e w'=>PtsPost ps rest w e w'∧Below w.heap.size w w':=by
 have HS:Hid (s.data.toList=ac5 ps++rest):=hs
 clear hs
 by_cases hr:rest=[]
 ·have hC:chkOf ps rest= -1:=by rw[chkOf,if_pos hr]
  have HC:Hid (chkOf ps rest= -1):=hC
  clear hC
  go_enter Tryz.func38,Tryz.ntmps38
  go_wp2_with fail
  refine(refCheck_any s hsz ps rest HS.out hps hrest w).mono ?_
  rintro e w1 ⟨rfl,rfl⟩
  rw[HC.out]
  go_wp2_with fail
  go_loopw [6,7] (fun v i wr=> ∃(ps1 ps2:List Nat) (k:Nat),Hid (ps=ps1++ps2∧k=(ac5 ps1).length)∧k≤s.size∧i=.int .i64 k∧IOwn wr w.heap.size v (ps1.map fun p:Nat=>(p:Int))∧Below w.heap.size w wr) (fun _ i _=>s.size-(intOf i).toNat)
  case atStart=>exact⟨[],ps,0,⟨rfl,rfl⟩,Nat.zero_le _,rfl,IOwn.nil _ _,Below.refl _ _⟩
  case round=>
   obtain⟨ps1,ps2,k,HP,hk,rfl,hown,hbel⟩:=hrel
   by_cases hlt:k<s.size
   ·cases ps2 with
    | nil=>
     have h1:=Lib.size_eq s
     rw[HS.out,HP.out.1,hr,List.append_nil,List.append_nil,←HP.out.2] at h1
     omega
    | cons p ps2=>
     have hp:ag9 p:=hps p (by rw[HP.out.1];simp)
     have hdrop:s.data.toList.drop k=enc p++(ac5 ps2++rest):=by
      rw[HS.out,HP.out.1,HP.out.2,abu,List.append_assoc,List.drop_left];simp[ac5]
     obtain⟨z,hz⟩: ∃z,z=(enc p).length:=⟨_,rfl⟩
     have h1:oneN (s.data.toList.drop k)=(p,z):=by rw[hdrop,hz];exact oneN_enc hp _
     have hz1:1≤z∧z≤4:=by rw[hz];exact⟨agp p,enc_le p⟩
     have hfit:k+z≤s.size:=by
      have:=congrArg List.length hdrop
      rw[List.length_drop,←Lib.size_eq,List.length_append,←hz] at this
      omega
     have HP2:Hid (ps=(ps1++[p])++ps2∧k+z=(ac5 (ps1++[p])).length):=by
      refine⟨by rw[HP.out.1];simp,?_⟩
      rw[abu,List.length_append,←HP.out.2,hz];simp[ac5]
     have hlen:(ps1.map fun p:Nat=>(p:Int)).length≤1099511627776:=by
      have:=abk ps1
      rw[←HP.out.2] at this
      simp
      omega
     have HLEN:Hid ((ps1.map fun p:Nat=>(p:Int)).length≤1099511627776):=hlen
     have H1:Hid (oneN (s.data.toList.drop k)=(p,z)):=h1
     have hmap:(ps1.map fun p:Nat=>(p:Int))++[(p:Int)]=(ps1++[p]).map fun p:Nat=>(p:Int):=by simp
     have HMAP:Hid ((ps1.map fun p:Nat=>(p:Int))++[(p:Int)]=(ps1++[p]).map fun p:Nat=>(p:Int)):=hmap
     have hsz1:=hbel.size
     clear h1 hdrop hz HP hlen hmap
     go_wp2_with fail
     refine(one_any s k hlt hsz _).mono ?_
     rintro e w1 ⟨rfl,rfl⟩
     rw[H1.out]
     go_wp2_with (at_builtin;refine aa9 rfl _ _ rfl w.heap.size _ _ rfl hown _ 1 rfl HLEN.out hsz1 w.heap.size w hbel (Nat.le_refl _) ?_;intro v2 W2 hown2 hbel2 hsz2 _;rw[HMAP.out] at hown2)
     go_roundw
     case rel=>exact⟨ps1++[p],ps2,k+z,HP2,hfit,by go_num,hown2,hbel2⟩
     case measure=>simp[intOf];omega
   ·have hend:ps2=[]:=by
     have h1:=Lib.size_eq s
     rw[HS.out,HP.out.1,abu,List.append_assoc,List.length_append,←HP.out.2,List.length_append] at h1
     have:=abk ps2
     exact List.eq_nil_of_length_eq_zero (by omega)
    have hpe:ps1=ps:=by rw[HP.out.1,hend,List.append_nil]
    obtain⟨va,vc,hval⟩:=hown.ints.val
    have hown2:IOwn wr w.heap.size u6 (ps.map fun p:Nat=>(p:Int)):=hpe▸hown
    rw[hval] at hown2
    subst hval
    clear hown
    go_wp2
    refine bodyPost_ret (results13_run rfl rfl rfl) rfl ?_
    exact⟨.inl ⟨hr,_,rfl,hown2⟩,hbel⟩
 ·have hC:chkOf ps rest=((ac5 ps).length:Int):=by rw[chkOf,if_neg hr]
  obtain⟨k,hk⟩: ∃k,k=(ac5 ps).length:=⟨_,rfl⟩
  rw[←hk] at hC
  have HC:Hid (chkOf ps rest=(k:Int)):=hC
  have HK:Hid (k=(ac5 ps).length):=hk
  clear hC hk
  go_enter Tryz.func38,Tryz.ntmps38
  go_wp2_with fail
  refine(refCheck_any s hsz ps rest HS.out hps hrest w).mono ?_
  rintro e w1 ⟨rfl,rfl⟩
  rw[HC.out]
  go_wp2_with fail
  refine bodyPost_ret (results13_run rfl rfl rfl) rfl ?_
  exact⟨.inr ⟨hr,by rw[←HK.out]⟩,Below.refl _ _⟩
end Go.Proofs.YtpfkoldfbecdlaaGreatDoor
namespace Go.Proofs.YtpfkoldfbecdlaaGreatDoor
open Go.Vf
def wgt (k:Nat)(e:El)(wd:Bool):Int:=
 match k with
 | 0=>if wd then 0 else e.pr
 | 1=>if wd then 0 else e.se
 | 2=>if wd then 0 else e.te
 | _=>if e.va then e.pr else if wd||decide (e=⟨false,0,0,0⟩) then 0 else 65535
def wipe (sh wd:Bool)(e:El):Bool:=if e.pr=0 then wd else sh&&e.va
def lvl (sh:Bool)(k:Nat):Bool→List El→List Int
 | _,[]=>[]
 | wd,e::r=>if wgt k e (wipe sh wd e)=0 then lvl sh k (wipe sh wd e) r else wgt k e (wipe sh wd e)::lvl sh k (wipe sh wd e) r
def lev (sh back:Bool)(k:Nat)(es:List El):List Int:=if k=1∧back=true then (lvl sh k false es).reverse else lvl sh k false es
def two (n:Int):List UInt8:=[UInt8.ofNat (n/256).toNat,UInt8.ofNat (n % 256).toNat]
def rowK (r:List Int):List UInt8:=r.flatMap two++[0,0]
def levs (sh back:Bool)(es:List El)(ks:List Nat):List UInt8:=ks.flatMap fun k=>rowK (lev sh back k es)
def keyLv (s:Nat)(sh back:Bool)(es:List El):List UInt8:=levs sh back es (List.range s)
def cmpU:List Int→List Int→Int
 | [],[]=>0
 | [],_::_=> -1
 | _::_,[]=>1
 | x::a,y::b=>if x<y then -1 else if y<x then 1 else cmpU a b
def af3 (sh back:Bool)(a b:List El):List Nat→Int
 | []=>0
 | k::r=>if cmpU (lev sh back k a) (lev sh back k b)=0 then af3 sh back a b r else cmpU (lev sh back k a) (lev sh back k b)
def acp (s:Int)(sh:Bool):Bool:=decide (1≤s)&&decide (s≤if sh then 4 else 3)
def WtOk (e:El):Prop:=(0≤e.pr∧e.pr≤65535)∧(0≤e.se∧e.se≤65535)∧(0≤e.te∧e.te≤65535)
theorem wgt_ok {e:El}(h:WtOk e)(k:Nat)(wd:Bool):0≤wgt k e wd∧wgt k e wd≤65535:=by
 obtain⟨h1,h2,h3⟩:=h
 unfold wgt
 split<;>(repeat' split)<;>omega
theorem lvl_ok (sh:Bool)(k:Nat): ∀(es:List El) (wd:Bool),(∀e∈es,WtOk e)→ ∀n∈lvl sh k wd es,1≤n∧n≤65535:=by
 intro es
 induction es with
 | nil=>intro wd _ n hn;cases hn
 | cons e r ih=>
  intro wd h n hn
  have h1:=wgt_ok (h e (List.mem_cons_self ..)) k (wipe sh wd e)
  have h2:=ih (wipe sh wd e) (fun x hx=>h x (List.mem_cons_of_mem _ hx))
  unfold lvl at hn
  split at hn
  ·exact h2 n hn
  ·rename_i hz
   rcases List.mem_cons.1 hn with rfl | hn
   ·omega
   ·exact h2 n hn
theorem lvl_len (sh:Bool)(k:Nat): ∀(es:List El) (wd:Bool),(lvl sh k wd es).length≤es.length:=by
 intro es
 induction es with
 | nil=>intro wd;simp[lvl]
 | cons e r ih=>
  intro wd
  have:=ih (wipe sh wd e)
  unfold lvl
  split<;>simp<;>omega
theorem lev_ok {sh back:Bool}{k:Nat}{es:List El}(h: ∀e∈es,WtOk e): ∀n∈lev sh back k es,1≤n∧n≤65535:=by
 intro n hn
 unfold lev at hn
 split at hn
 ·exact lvl_ok sh k es false h n (List.mem_reverse.1 hn)
 ·exact lvl_ok sh k es false h n hn
theorem lev_len (sh back:Bool)(k:Nat)(es:List El):(lev sh back k es).length≤es.length:=by
 unfold lev
 split
 ·rw[List.length_reverse];exact lvl_len _ _ _ _
 ·exact lvl_len _ _ _ _
theorem rowK_len (r:List Int):(rowK r).length=2*r.length+2:=by
 have h: ∀r:List Int,(r.flatMap two).length=2*r.length:=by
  intro r
  induction r with
  | nil=>rfl
  | cons x t ih=>rw[List.flatMap_cons,List.length_append,ih];simp[two];omega
 unfold rowK
 rw[List.length_append,h]
 rfl
theorem levs_cons (sh back:Bool)(es:List El)(k:Nat)(ks:List Nat):levs sh back es (k::ks)=rowK (lev sh back k es)++levs sh back es ks:=rfl
end Go.Proofs.YtpfkoldfbecdlaaGreatDoor
namespace Go.Proofs.YtpfkoldfbecdlaaGreatDoor
open Go.RowKit Go.Vf Go.Maps
abbrev ag8 (s:Int)(sh back:Bool):Value:=.agg #[.int .i64 s,.bool sh,.bool back]
theorem isLong_any (s:ByteArray)(w:World):Calls Tryz.prog 35 #[.string s] w fun e w'=>e=.returned (.bool (decide (65536<s.size)))∧w=w':=by
 have h:decide ((65536:Int)<(s.size:Int))=decide (65536<s.size):=by
  rw[decide_eq_decide];omega
 go_enter Tryz.func35,Tryz.ntmps35
 go_wp2
 go_ret
 exact⟨by first | rfl | rw[h] | simp[h],rfl⟩
set_option maxHeartbeats 1000000 in
theorem colRight_any (s:Int)(sh back:Bool)(w:World)(_hs:InI s):Calls Tryz.prog 76 #[ag8 s sh back] w fun e w'=>e=.returned (.bool (acp s sh))∧Below w.heap.size w w':=by
 have hb0:=(Below.refl w.heap.size w).alloc (Nat.le_refl _) (.cells #[.int .i64 s,.bool sh,.bool back] 44)
 have hn0:=Blk.new w 44 #[.int .i64 s,.bool sh,.bool back]
 have c0:(w.alloc (.cells #[.int .i64 s,.bool sh,.bool back] 44)).cell? ⟨w.heap.size,0,none⟩=some (.int .i64 s):=hn0.cell 0
 have c1:(w.alloc (.cells #[.int .i64 s,.bool sh,.bool back] 44)).cell? ⟨w.heap.size,1,none⟩=some (.bool sh):=hn0.cell 1
 cases sh
 ·by_cases h1:1≤s
  ·have hd:acp s false=decide (s≤3):=by unfold acp;rw[decide_eq_true h1];rfl
   rw[hd]
   go_enter Tryz.func76,Tryz.ntmps76
   go_wp2
   go_ret
   exact⟨by first | rfl | simp,hb0⟩
  ·have hd:acp s false=false:=by unfold acp;rw[decide_eq_false h1];rfl
   rw[hd]
   go_enter Tryz.func76,Tryz.ntmps76
   go_wp2
   go_ret
   exact⟨by first | rfl | simp,hb0⟩
 ·by_cases h1:1≤s
  ·have hd:acp s true=decide (s≤4):=by unfold acp;rw[decide_eq_true h1];rfl
   rw[hd]
   go_enter Tryz.func76,Tryz.ntmps76
   go_wp2
   go_ret
   exact⟨by first | rfl | simp,hb0⟩
  ·have hd:acp s true=false:=by unfold acp;rw[decide_eq_false h1];rfl
   rw[hd]
   go_enter Tryz.func76,Tryz.ntmps76
   go_wp2
   go_ret
   exact⟨by first | rfl | simp,hb0⟩
theorem primary_any (e:El)(wd:Bool)(w:World):Calls Tryz.prog 78 #[elA e,.bool wd] w fun r w'=>r=.returned (.int .i64 (wgt 0 e wd))∧Below w.heap.size w w':=by
 obtain⟨va,pr,se,te⟩:=e
 have hb0:=(Below.refl w.heap.size w).alloc (Nat.le_refl _) (.cells #[.bool va,.int .i64 pr,.int .i64 se,.int .i64 te] 133)
 have c1:(w.alloc (.cells #[.bool va,.int .i64 pr,.int .i64 se,.int .i64 te] 133)).cell? ⟨w.heap.size,1,none⟩=some (.int .i64 pr):=(Blk.new w 133 _).cell 1
 cases wd
 ·go_enter Tryz.func78,Tryz.ntmps78
  go_wp2
  go_ret
  exact⟨rfl,hb0⟩
 ·go_enter Tryz.func78,Tryz.ntmps78
  go_wp2
  go_ret
  exact⟨rfl,hb0⟩
theorem secondary_any (e:El)(wd:Bool)(w:World):Calls Tryz.prog 79 #[elA e,.bool wd] w fun r w'=>r=.returned (.int .i64 (wgt 1 e wd))∧Below w.heap.size w w':=by
 obtain⟨va,pr,se,te⟩:=e
 have hb0:=(Below.refl w.heap.size w).alloc (Nat.le_refl _) (.cells #[.bool va,.int .i64 pr,.int .i64 se,.int .i64 te] 133)
 have c1:(w.alloc (.cells #[.bool va,.int .i64 pr,.int .i64 se,.int .i64 te] 133)).cell? ⟨w.heap.size,2,none⟩=some (.int .i64 se):=(Blk.new w 133 _).cell 2
 cases wd
 ·go_enter Tryz.func79,Tryz.ntmps79
  go_wp2
  go_ret
  exact⟨rfl,hb0⟩
 ·go_enter Tryz.func79,Tryz.ntmps79
  go_wp2
  go_ret
  exact⟨rfl,hb0⟩
theorem tertiary_any (e:El)(wd:Bool)(w:World):Calls Tryz.prog 80 #[elA e,.bool wd] w fun r w'=>r=.returned (.int .i64 (wgt 2 e wd))∧Below w.heap.size w w':=by
 obtain⟨va,pr,se,te⟩:=e
 have hb0:=(Below.refl w.heap.size w).alloc (Nat.le_refl _) (.cells #[.bool va,.int .i64 pr,.int .i64 se,.int .i64 te] 133)
 have c1:(w.alloc (.cells #[.bool va,.int .i64 pr,.int .i64 se,.int .i64 te] 133)).cell? ⟨w.heap.size,3,none⟩=some (.int .i64 te):=(Blk.new w 133 _).cell 3
 cases wd
 ·go_enter Tryz.func80,Tryz.ntmps80
  go_wp2
  go_ret
  exact⟨rfl,hb0⟩
 ·go_enter Tryz.func80,Tryz.ntmps80
  go_wp2
  go_ret
  exact⟨rfl,hb0⟩
theorem eq_elW (e f:El)(w:World):(Op.equalIn 10000 133 (elA e) (elA f)).run Tryz.prog w=.ok (decide (e=f)) w:=by
 obtain⟨e1,e2,e3,e4⟩:=e
 obtain⟨f1,f2,f3,f4⟩:=f
 have h: ∀d,(Op.equalIn (d+1+1) 133 (elA ⟨e1,e2,e3,e4⟩) (elA ⟨f1,f2,f3,f4⟩)).run Tryz.prog w=.ok (decide ((⟨e1,e2,e3,e4⟩:El)=⟨f1,f2,f3,f4⟩)) w:=fun d=>by
  simp[go_sem,El.mk.injEq]
  by_cases h1:e1=f1<;>by_cases h2:e2=f2<;>by_cases h3:e3=f3<;>by_cases h4:e4=f4<;>simp[h1,h2,h3,h4]
 exact h 9998
set_option maxHeartbeats 1000000 in
theorem fourth_any (e:El)(wd:Bool)(w:World):Calls Tryz.prog 81 #[elA e,.bool wd] w fun r w'=>r=.returned (.int .i64 (wgt 3 e wd))∧Below w.heap.size w w':=by
 obtain⟨va,pr,se,te⟩:=e
 have hb0:=(Below.refl w.heap.size w).alloc (Nat.le_refl _) (.cells #[.bool va,.int .i64 pr,.int .i64 se,.int .i64 te] 133)
 have hB:=Blk.new w 133 #[.bool va,.int .i64 pr,.int .i64 se,.int .i64 te]
 have c0:(w.alloc (.cells #[.bool va,.int .i64 pr,.int .i64 se,.int .i64 te] 133)).cell? ⟨w.heap.size,0,none⟩=some (.bool va):=hB.cell 0
 have c1:(w.alloc (.cells #[.bool va,.int .i64 pr,.int .i64 se,.int .i64 te] 133)).cell? ⟨w.heap.size,1,none⟩=some (.int .i64 pr):=hB.cell 1
 have c2:(w.alloc (.cells #[.bool va,.int .i64 pr,.int .i64 se,.int .i64 te] 133)).cell? ⟨w.heap.size,2,none⟩=some (.int .i64 se):=hB.cell 2
 have c3:(w.alloc (.cells #[.bool va,.int .i64 pr,.int .i64 se,.int .i64 te] 133)).cell? ⟨w.heap.size,3,none⟩=some (.int .i64 te):=hB.cell 3
 cases va
 ·cases wd
  ·have heq:=fun w=>eq_elW ⟨false,pr,se,te⟩ ⟨false,0,0,0⟩ w
   have hw:wgt 3 ⟨false,pr,se,te⟩ false=if (decide ((⟨false,pr,se,te⟩:El)=⟨false,0,0,0⟩))=true then 0 else 65535:=rfl
   rw[hw]
   cases hq:decide ((⟨false,pr,se,te⟩:El)=⟨false,0,0,0⟩) with
   | true=>
    rw[hq] at heq
    go_enter Tryz.func81,Tryz.ntmps81
    go_wp2
    go_ret
    exact⟨rfl,hb0⟩
   | false=>
    rw[hq] at heq
    go_enter Tryz.func81,Tryz.ntmps81
    go_wp2
    go_ret
    exact⟨rfl,hb0⟩
  ·go_enter Tryz.func81,Tryz.ntmps81
   go_wp2
   go_ret
   exact⟨rfl,hb0⟩
 ·go_enter Tryz.func81,Tryz.ntmps81
  go_wp2
  go_ret
  exact⟨rfl,hb0⟩
def VaOk (e:El):Prop:=e.va=true→e.pr≠0
theorem colA_two (s:Int)(sh back:Bool)(w:World):Blk (w.alloc (.cells #[.int .i64 s,.bool sh,.bool back] 44)) w.heap.size 44 #[.int .i64 s,.bool sh,.bool back]:=Blk.new w 44 _
set_option maxHeartbeats 1000000 in
theorem rRight_any (s:Int)(sh back:Bool)(w:World)(_hs:InI s):Calls Tryz.prog 83 #[ag8 s sh back] w fun e w'=>e=.returned (.bool (acp s sh))∧Below w.heap.size w w':=by
 have hb0:=(Below.refl w.heap.size w).alloc (Nat.le_refl _) (.cells #[.int .i64 s,.bool sh,.bool back] 44)
 have hn0:=colA_two s sh back w
 have c0:(w.alloc (.cells #[.int .i64 s,.bool sh,.bool back] 44)).cell? ⟨w.heap.size,0,none⟩=some (.int .i64 s):=hn0.cell 0
 have c1:(w.alloc (.cells #[.int .i64 s,.bool sh,.bool back] 44)).cell? ⟨w.heap.size,1,none⟩=some (.bool sh):=hn0.cell 1
 by_cases h4:s=4
 ·subst h4
  have hd:acp 4 sh=sh:=by cases sh<;>rfl
  rw[hd]
  go_enter Tryz.func83,Tryz.ntmps83
  go_wp2
  go_ret
  exact⟨rfl,hb0⟩
 ·have h4':(s==4)=false:=by simpa using h4
  by_cases h1:1≤s
  ·have h1':decide (1≤s)=true:=decide_eq_true h1
   have hd:acp s sh=decide (s≤3):=by
    unfold acp
    rw[h1',Bool.true_and]
    cases sh
    ·rfl
    ·rw[decide_eq_decide];simp;omega
   rw[hd]
   go_enter Tryz.func83,Tryz.ntmps83
   go_wp2
   go_ret
   exact⟨by first | rfl | simp,hb0⟩
  ·have h1':decide (1≤s)=false:=decide_eq_false h1
   have hd:acp s sh=false:=by unfold acp;rw[h1'];rfl
   rw[hd]
   go_enter Tryz.func83,Tryz.ntmps83
   go_wp2
   go_ret
   exact⟨by first | rfl | simp,hb0⟩
set_option maxHeartbeats 4000000 in
set_option maxRecDepth 20000 in
theorem rweight_any (k:Nat)(hk:k<4){z:Int}(hz:z=(k:Int)+1)(e:El)(wd:Bool)(h3:k=3→e.va=true→wd=true)(w:World):
  Calls Tryz.prog 128 #[elA e,.bool wd,.int .i64 z] w fun r w'=>r=.returned (.int .i64 (wgt k e wd))∧Below w.heap.size w w':=by
 obtain⟨va,pr,se,te⟩:=e
 have hb0:=(Below.refl w.heap.size w).alloc (Nat.le_refl _) (.cells #[.bool va,.int .i64 pr,.int .i64 se,.int .i64 te] 133)
 have hB:=Blk.new w 133 #[.bool va,.int .i64 pr,.int .i64 se,.int .i64 te]
 have c0:(w.alloc (.cells #[.bool va,.int .i64 pr,.int .i64 se,.int .i64 te] 133)).cell? ⟨w.heap.size,0,none⟩=some (.bool va):=hB.cell 0
 have c1:(w.alloc (.cells #[.bool va,.int .i64 pr,.int .i64 se,.int .i64 te] 133)).cell? ⟨w.heap.size,1,none⟩=some (.int .i64 pr):=hB.cell 1
 have c2:(w.alloc (.cells #[.bool va,.int .i64 pr,.int .i64 se,.int .i64 te] 133)).cell? ⟨w.heap.size,2,none⟩=some (.int .i64 se):=hB.cell 2
 have c3:(w.alloc (.cells #[.bool va,.int .i64 pr,.int .i64 se,.int .i64 te] 133)).cell? ⟨w.heap.size,3,none⟩=some (.int .i64 te):=hB.cell 3
 clear hB
 have hk4:k=0∨k=1∨k=2∨k=3:=by omega
 clear hk
 rcases hk4 with rfl | rfl | rfl | rfl
 ·obtain rfl:z=1:=hz
  clear h3
  cases wd
  all_goals
   go_enter Tryz.func128,Tryz.ntmps128
   go_wp2
   go_ret
   exact⟨rfl,hb0⟩
 ·obtain rfl:z=2:=hz
  clear h3
  cases wd
  all_goals
   go_enter Tryz.func128,Tryz.ntmps128
   go_wp2
   go_ret
   exact⟨rfl,hb0⟩
 ·obtain rfl:z=3:=hz
  clear h3
  cases wd
  all_goals
   go_enter Tryz.func128,Tryz.ntmps128
   go_wp2
   go_ret
   exact⟨rfl,hb0⟩
 ·obtain rfl:z=4:=hz
  cases va
  ·cases wd
   ·by_cases hp:pr=0
    ·subst hp
     by_cases hs:se=0
     ·subst hs
      by_cases ht:te=0
      ·subst ht
       go_enter Tryz.func128,Tryz.ntmps128
       go_wp2
       go_ret
       exact⟨rfl,hb0⟩
      ·have ht':(te==0)=false:=by simpa using ht
       have hw:wgt 3 ⟨false,0,0,te⟩ false=65535:=by simp[wgt,ht]
       rw[hw]
       go_enter Tryz.func128,Tryz.ntmps128
       go_wp2
       go_ret
       exact⟨rfl,hb0⟩
     ·have hs':(se==0)=false:=by simpa using hs
      have hw:wgt 3 ⟨false,0,se,te⟩ false=65535:=by simp[wgt,hs]
      rw[hw]
      go_enter Tryz.func128,Tryz.ntmps128
      go_wp2
      go_ret
      exact⟨rfl,hb0⟩
    ·have hp':(pr==0)=false:=by simpa using hp
     have hw:wgt 3 ⟨false,pr,se,te⟩ false=65535:=by simp[wgt,hp]
     rw[hw]
     go_enter Tryz.func128,Tryz.ntmps128
     go_wp2
     go_ret
     exact⟨rfl,hb0⟩
   ·go_enter Tryz.func128,Tryz.ntmps128
    go_wp2
    go_ret
    exact⟨rfl,hb0⟩
  ·obtain rfl:=h3 rfl rfl
   go_enter Tryz.func128,Tryz.ntmps128
   go_wp2
   go_ret
   exact⟨rfl,hb0⟩
end Go.Proofs.YtpfkoldfbecdlaaGreatDoor
