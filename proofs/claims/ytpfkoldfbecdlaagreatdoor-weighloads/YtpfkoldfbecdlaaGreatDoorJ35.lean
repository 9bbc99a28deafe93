/- Contracts and lemmas (nothing is claimed here). -/
import Derived.Test.YtpfkoldfbecdlaaGreatDoorJ22
import Derived.BigRegion
namespace Go.Proofs.YtpfkoldfbecdlaaGreatDoor
open Go.RowKit Go.Vf Go.Maps
theorem alb (u:Nat):act ac7 16 (aad u) 0=some u:=by
 rw[aaw,ahe,Nat.mod_eq_of_lt (Nat.lt_of_lt_of_le (ad0 u _ (Nat.le_refl _)) (Nat.pow_le_pow_right (by omega) (by omega)))]
 simp
theorem asn {n:Nat}(hn:n<16^6):4≤(aad n).length∧(aad n).length≤6:=by
 have h:=aco n 6 hn (by omega)
 rw[aaw,aca]
 omega
def NumOg (l:List UInt8)(x:Int)(b:Bool):Prop:=(b=true∧ ∃n:Nat,x=(n:Int)∧n<16^6∧l=aad n)∨(b=false∧ ∀n:Nat,n<16^6→l≠aad n)
theorem NumOg.bad {l:List UInt8}(h: ¬(4≤l.length∧l.length≤6)∨act ac7 16 l 0=none):NumOg l 0 false:=by
 refine .inr ⟨rfl,fun n hn e=> ?_⟩
 rcases h with h | h
 ·rw[e] at h;exact h (asn hn)
 ·rw[e,alb] at h;cases h
theorem NumOg.done {l:List UInt8}{n:Nat}(h:act ac7 16 l 0=some n)(hn:n<16^6):NumOg l (n:Int) (decide (aad n=l)):=by
 by_cases e:aad n=l
 ·exact .inl ⟨by simp[e],n,rfl,hn,e.symm⟩
 ·refine .inr ⟨by simp[e],fun m _ hm=> ?_⟩
  rw[hm,alb] at h
  have:m=n:=by simpa using h
  subst this
  exact e hm.symm
def a4e (l:List UInt8)(w:World)(e:Ending)(w':World):Prop:= ∃x b,e=.returned (.tuple #[.int .i64 x,.bool b])∧NumOg l x b∧w=w'
set_option maxHeartbeats 2000000 in
set_option maxRecDepth 20000 in
theorem ala (s:ByteArray)(hs:s.size≤17179869184)(w:World):Calls Tryz.prog 105 #[.string s] w fun e w'=>a4e s.data.toList w e w':=by
 have HSL:Hid (s.data.toList.length=s.size):=(Lib.size_eq s).symm
 by_cases h4:s.size<4
 ·have HB:Hid (NumOg s.data.toList 0 false):=NumOg.bad (.inl (by rw[HSL.out];omega))
  go_enter Tryz.func105,Tryz.ntmps105
  go_wp2_with fail
  refine bodyPost_ret (aat rfl rfl) rfl ?_
  exact⟨0,false,rfl,HB.out,rfl⟩
 ·by_cases h6:6<s.size
  ·have HB:Hid (NumOg s.data.toList 0 false):=NumOg.bad (.inl (by rw[HSL.out];omega))
   go_enter Tryz.func105,Tryz.ntmps105
   go_wp2_with fail
   refine bodyPost_ret (aat rfl rfl) rfl ?_
   exact⟨0,false,rfl,HB.out,rfl⟩
  ·go_enter Tryz.func105,Tryz.ntmps105
   go_wp2_with fail
   go_loopw [4,5,6] (fun x i _ wr=> ∃(k m:Nat),k≤s.size∧i=.int .i64 k∧x=.int .i64 (m:Int)∧m<16777216∧Hid (m<16^k∧act ac7 16 (s.data.toList.drop k) m=act ac7 16 s.data.toList 0)∧wr=w) (fun _ i _ _=>s.size-(intOf i).toNat)
   case atStart=>exact⟨0,0,by omega,rfl,rfl,by omega,⟨by simp,by simp⟩,rfl⟩
   case round=>
    obtain⟨k,m,hk,rfl,rfl,hm,HM,rfl⟩:=hrel
    by_cases hlt:k<s.size
    ·have hstep:=ayr s k hlt m
     have hm6:m*16+15<16777216:=by
      have h1:=HM.out.1
      have h2:16^k≤16^5:=Nat.pow_le_pow_right (by omega) (by omega)
      omega
     have h256:(s[k]).toNat<256:=(s[k]).toNat_lt
     have HN:Hid (∀d,ac7 s[k]=some d→act ac7 16 (s.data.toList.drop (k+1)) (m*16+d)=act ac7 16 s.data.toList 0):=fun d hd=>by
      rw[←HM.out.2,hstep,hd]
     have HF:Hid (ac7 s[k]=none→act ac7 16 s.data.toList 0=none):=fun hd=>by
      rw[←HM.out.2,hstep,hd]
     have HP:Hid (∀d,d<16→m*16+d<16^(k+1)):=fun d hd=>by
      have h1:=HM.out.1
      rw[Nat.pow_succ];omega
     have hx:ac7 s[k]=if 65≤(s[k]).toNat∧(s[k]).toNat≤70 then some ((s[k]).toNat-55) else if 48≤(s[k]).toNat∧(s[k]).toNat≤57 then some ((s[k]).toNat-48) else none:=rfl
     have HX:Hid (ac7 s[k]=if 65≤(s[k]).toNat∧(s[k]).toNat≤70 then some ((s[k]).toNat-55) else if 48≤(s[k]).toNat∧(s[k]).toNat≤57 then some ((s[k]).toNat-48) else none):=hx
     clear hstep hx HM
     by_cases hA:65≤(s[k]).toNat∧(s[k]).toNat≤70
     ·obtain⟨hA1,hA2⟩:=hA
      go_wp2_with fail
      exact⟨⟨k+1,m*16+((s[k]).toNat-55),by omega,by go_num,congrArg (Value.int .i64) (by omega),by omega,⟨HP.out _ (by omega),HN.out _ (by rw[HX.out,if_pos ⟨hA1,hA2⟩])⟩,trivial⟩,by simp only[intOf];omega⟩
     ·by_cases hB:48≤(s[k]).toNat∧(s[k]).toNat≤57
      ·obtain⟨hB1,hB2⟩:=hB
       have HXB:Hid (ac7 s[k]=some ((s[k]).toNat-48)):=by show _=_;rw[HX.out,if_neg hA,if_pos ⟨hB1,hB2⟩]
       have hA': ¬65≤(s[k]).toNat:=by omega
       clear hA
       go_wp2_with fail
       exact⟨⟨k+1,m*16+((s[k]).toNat-48),by omega,by go_num,congrArg (Value.int .i64) (by omega),by omega,⟨HP.out _ (by omega),HN.out _ HXB.out⟩,trivial⟩,by simp only[intOf];omega⟩
      ·have HB:Hid (NumOg s.data.toList 0 false):=NumOg.bad (.inr (HF.out (by rw[HX.out,if_neg hA,if_neg hB])))
       clear HX HN HF HP
       by_cases h1:(s[k]).toNat<48
       ·clear hA hB
        go_wp2_with fail
        refine bodyPost_ret (aat rfl rfl) rfl ?_
        exact⟨0,false,rfl,HB.out,rfl⟩
       ·by_cases h2:70<(s[k]).toNat
        ·clear hA hB
         go_wp2_with fail
         refine bodyPost_ret (aat rfl rfl) rfl ?_
         exact⟨0,false,rfl,HB.out,rfl⟩
        ·have h3:57<(s[k]).toNat∧(s[k]).toNat<65:=by omega
         obtain⟨h3a,h3b⟩:=h3
         clear hA hB
         by_cases h4':64≤(s[k]).toNat
         ·skip
          go_wp2_with fail
          refine bodyPost_ret (aat rfl rfl) rfl ?_
          exact⟨0,false,rfl,HB.out,rfl⟩
         ·have h5:(s[k]).toNat≤63:=by omega
          go_wp2_with fail
          refine bodyPost_ret (aat rfl rfl) rfl ?_
          exact⟨0,false,rfl,HB.out,rfl⟩
    ·obtain rfl:k=s.size:=by omega
     have HNB:Hid (act ac7 16 s.data.toList 0=some m):=by
      show _=_
      rw[←HM.out.2,ago s s.size (Nat.le_refl _)]
      rfl
     have hdm:=aeq m (by omega) wr
     have HD:Hid (NumOg s.data.toList (m:Int) (decide (aad m=s.data.toList))):=NumOg.done HNB.out (by omega)
     go_wp2_with fail
     refine hdm.mono ?_
     rintro e w1 ⟨rfl,rfl⟩
     go_wp2_with fail
     refine bodyPost_ret (aat rfl rfl) rfl ?_
     have e1:(aad m==s.toList)=decide (aad m=s.data.toList):=by rw[ByteArray.toList_eq];exact Bool.eq_iff_iff.2 (by simp)
     exact⟨m,decide (aad m=s.data.toList),by rw[←e1];rfl,HD.out,rfl⟩
theorem ann (s:ByteArray)(a b:Nat):(s.extract a b).data.toList=(s.data.toList.drop a).take (b-a):=by
 rw[adx]
theorem ak7 {n:Nat}(h:(aad n).length=4):n<65536:=by
 rw[aaw,aca] at h
 have h1:=ad0 n _ (Nat.le_refl (aa3 n).length)
 have h2:=Nat.pow_le_pow_right (n:=16) (by omega) (show(aa3 n).length≤4 by omega)
 have h3:(16:Nat)^4=65536:=by decide
 omega
theorem ajf (l:List UInt8)(a:Nat)(ha:a+4≤17):(l.drop a).take 4=((l.take 17).drop a).take 4:=by
 rw[List.drop_take,List.take_take,Nat.min_eq_left (by omega)]
theorem ans {l:List UInt8}{e:El}(hl:17≤l.length)(h:elR (l.take 17)=some e):
  wtE e∧l.take 17=elP e∧(l.drop 2).take 4=aad e.pr.toNat∧(l.drop 7).take 4=aad e.se.toNat∧(l.drop 12).take 4=aad e.te.toNat∧l[1]? =some (if e.va then 42 else 46):=by
 obtain⟨hw,hp⟩:=atl (by rw[List.length_take];omega) h
 obtain⟨u1,e1,g1⟩:=abw hw.1
 obtain⟨u2,e2,g2⟩:=abw hw.2.1
 obtain⟨u3,e3,g3⟩:=abw hw.2.2
 have t1:e.pr.toNat=u1:=by omega
 have t2:e.se.toNat=u2:=by omega
 have t3:e.te.toNat=u3:=by omega
 obtain⟨a1,a2,a3,a4,ha⟩:=a5q (ab5 g1)
 obtain⟨b1,b2,b3,b4,hb⟩:=a5q (ab5 g2)
 obtain⟨c1,c2,c3,c4,hc⟩:=a5q (ab5 g3)
 refine⟨hw,hp,?_,?_,?_,?_⟩
 ·rw[ajf l 2 (by omega),hp,elP,t1,t2,t3,ha,hb,hc];rfl
 ·rw[ajf l 7 (by omega),hp,elP,t1,t2,t3,ha,hb,hc];rfl
 ·rw[ajf l 12 (by omega),hp,elP,t1,t2,t3,ha,hb,hc];rfl
 ·have:=congrArg (fun x:List UInt8=>x[1]?) hp
  simp only[List.getElem?_take_of_lt (show 1<17 by omega)] at this
  rw[this,elP]
  rfl
def a5h (l:List UInt8)(w:World)(r:Ending)(w':World):Prop:=
 Below w.heap.size w w'∧ ∃(e:El) (b:Bool),r=.returned (.tuple #[elA e,.bool b])∧((b=true∧17≤l.length∧elR (l.take 17)=some e)∨(b=false∧ ∀e',17≤l.length→elR (l.take 17)≠some e'))
theorem aoj {l:List UInt8}(h:(∀n:Nat,n<16^6→(l.drop 2).take 4≠aad n)∨(∀n:Nat,n<16^6→(l.drop 7).take 4≠aad n)∨(∀n:Nat,n<16^6→(l.drop 12).take 4≠aad n)): ∀e',17≤l.length→elR (l.take 17)≠some e':=by
 intro e' hl he
 obtain⟨hw,_,h1,h2,h3,_⟩:=ans hl he
 have k:(65536:Nat)≤16^6:=by decide
 obtain⟨u1,e1,g1⟩:=abw hw.1
 obtain⟨u2,e2,g2⟩:=abw hw.2.1
 obtain⟨u3,e3,g3⟩:=abw hw.2.2
 rcases h with h | h | h
 ·exact h _ (by omega) h1
 ·exact h _ (by omega) h2
 ·exact h _ (by omega) h3
theorem a1m {l:List UInt8}{n1 n2 n3:Nat}{va:Bool}(hl:17≤l.length)(h1:(l.drop 2).take 4=aad n1)(h2:(l.drop 7).take 4=aad n2)(h3:(l.drop 12).take 4=aad n3)(hva:va=decide (l[1]? =some 42)):
  (n1≤65535∧n2≤65535∧n3≤65535)∧((elP ⟨va,n1,n2,n3⟩=l.take 17→elR (l.take 17)=some ⟨va,n1,n2,n3⟩)∧(elP ⟨va,n1,n2,n3⟩≠l.take 17→ ∀e',elR (l.take 17)≠some e')):=by
 have g1:n1<65536:=ak7 (by rw[←h1,List.length_take,List.length_drop];omega)
 have g2:n2<65536:=ak7 (by rw[←h2,List.length_take,List.length_drop];omega)
 have g3:n3<65536:=ak7 (by rw[←h3,List.length_take,List.length_drop];omega)
 have hw:wtE ⟨va,n1,n2,n3⟩:=by
  refine⟨?_,?_,?_⟩<;>(unfold wtB;simp;omega)
 refine⟨⟨by omega,by omega,by omega⟩,fun h=>by rw[←h];exact atj hw,fun h e' he=>h ?_⟩
 obtain⟨hw',hp,k1,k2,k3,k4⟩:=ans hl he
 obtain⟨u1,e1,_⟩:=abw hw'.1
 obtain⟨u2,e2,_⟩:=abw hw'.2.1
 obtain⟨u3,e3,_⟩:=abw hw'.2.2
 have q1:=aep (h1.symm.trans k1)
 have q2:=aep (h2.symm.trans k2)
 have q3:=aep (h3.symm.trans k3)
 have q4:va=e'.va:=by
  rw[hva,k4]
  cases e'.va<;>simp
 rw[hp]
 obtain⟨v,p,q,r⟩:=e'
 simp only at q1 q2 q3 q4 e1 e2 e3
 subst q4
 congr 1
 rw[e1] at q1
 rw[e2] at q2
 rw[e3] at q3
 simp only[Int.toNat_natCast] at q1 q2 q3
 rw[q1,q2,q3,e1,e2,e3]
theorem aey {tmps:Array Value}{w:World}{h:Nat}{x y z t b:Value}(hb:Blk w h 133 #[x,y,z,t])(t2:tmps[2]?.getD undef=.pointer (some ⟨h,0,none⟩))(t3:tmps[3]?.getD undef=b):
  (results Tryz.f107 tmps).run Tryz.prog w=.ok (.tuple #[.agg #[x,y,z,t],b]) w:=by
 have c0:w.cell? ⟨h,0,none⟩=some x:=hb.cell 0
 have c1:w.cell? ⟨h,1,none⟩=some y:=hb.cell 1
 have c2:w.cell? ⟨h,2,none⟩=some z:=hb.cell 2
 have c3:w.cell? ⟨h,3,none⟩=some t:=hb.cell 3
 simp[results,Tryz.results107,go_sem,t2,t3,c0,c1,c2,c3]
abbrev put4 (w:World)(h:Nat)(a b c d:Value):World:=(((w.setCell ⟨h,0,none⟩ a).setCell ⟨h,1,none⟩ b).setCell ⟨h,2,none⟩ c).setCell ⟨h,3,none⟩ d
theorem Blk.put4 {w:World}{h:Nat}{t:TypeId}{a b c d:Value}(hb:Blk w h t #[a,b,c,d])(a' b' c' d':Value):Blk (put4 w h a' b' c' d') h t #[a',b',c',d']:=(((hb.set 0 a').set 1 b').set 2 c').set 3 d'
theorem ac8 {B:Nat}{a w:World}{h:Nat}(hb:Below B a w)(hB:B≤h)(a' b' c' d':Value):Below B a (put4 w h a' b' c' d'):=
 (((hb.setCell (p:=⟨h,0,none⟩) hB _).setCell (p:=⟨h,1,none⟩) hB _).setCell (p:=⟨h,2,none⟩) hB _).setCell (p:=⟨h,3,none⟩) hB _
structure Four (w:World)(h:Nat)(a b c d:Value):Prop where
 c0:w.cell? ⟨h,0,none⟩=some a
 c1:w.cell? ⟨h,1,none⟩=some b
 c2:w.cell? ⟨h,2,none⟩=some c
 c3:w.cell? ⟨h,3,none⟩=some d
 f0:w.frozen? ⟨h,0,none⟩=false
 f1:w.frozen? ⟨h,1,none⟩=false
 f2:w.frozen? ⟨h,2,none⟩=false
 f3:w.frozen? ⟨h,3,none⟩=false
theorem aid {w:World}{h:Nat}{t:TypeId}{a b c d:Value}(hb:Blk w h t #[a,b,c,d]):Four w h a b c d:=⟨hb.cell 0,hb.cell 1,hb.cell 2,hb.cell 3,hb.frozen 0,hb.frozen 1,hb.frozen 2,hb.frozen 3⟩
theorem amq {w:World}{h j:Nat}{t:TypeId}{cs:Array Value}(hb:Blk w j t cs)(hne:j≠h)(a b c d:Value):Blk (put4 w h a b c d) j t cs:=
 (Below.heap_setCell _ ⟨h,3,none⟩ _ j hne).trans ((Below.heap_setCell _ ⟨h,2,none⟩ _ j hne).trans ((Below.heap_setCell _ ⟨h,1,none⟩ _ j hne).trans ((Below.heap_setCell _ ⟨h,0,none⟩ _ j hne).trans hb)))
set_option maxHeartbeats 8000000 in
set_option maxRecDepth 20000 in
theorem asd (s:ByteArray)(hs:s.size≤65536)(w:World):Calls Tryz.prog 107 #[.string s] w fun r w'=>a5h s.data.toList w r w':=by
 have z:Value:=.int .i64 0
 have hb0:=((Below.refl w.heap.size w).alloc (Nat.le_refl _) (.cells #[.bool false,.int .i64 0,.int .i64 0,.int .i64 0] 133)).alloc (by simp) (.cells #[.bool false,.int .i64 0,.int .i64 0,.int .i64 0] 133)
 have hn1:Blk ((w.alloc (.cells #[.bool false,.int .i64 0,.int .i64 0,.int .i64 0] 133)).alloc (.cells #[.bool false,.int .i64 0,.int .i64 0,.int .i64 0] 133)) w.heap.size 133 #[.bool false,.int .i64 0,.int .i64 0,.int .i64 0]:=(Below.heap_alloc _ _ _ (by simp)).trans (Blk.new w 133 _)
 have hn2:Blk ((w.alloc (.cells #[.bool false,.int .i64 0,.int .i64 0,.int .i64 0] 133)).alloc (.cells #[.bool false,.int .i64 0,.int .i64 0,.int .i64 0] 133)) (w.heap.size+1) 133 #[.bool false,.int .i64 0,.int .i64 0,.int .i64 0]:=by
  have:=Blk.new (w.alloc (.cells #[.bool false,.int .i64 0,.int .i64 0,.int .i64 0] 133)) 133 #[.bool false,.int .i64 0,.int .i64 0,.int .i64 0]
  simpa using this
 have hsl:s.data.toList.length=s.size:=(Lib.size_eq s).symm
 have HSL:Hid (s.data.toList.length=s.size):=hsl
 clear hsl
 go_enter Tryz.func107,Tryz.ntmps107
 go_upto_region 2 with fail
 generalize (w.alloc (.cells #[.bool false,.int .i64 0,.int .i64 0,.int .i64 0] 133)).alloc (.cells #[.bool false,.int .i64 0,.int .i64 0,.int .i64 0] 133)=W at hb0 hn1 hn2⊢
 obtain⟨r0,r1,r2,r3,rz0,rz1,rz2,rz3⟩:=aid hn1
 obtain⟨m0,m1,m2,m3,mz0,mz1,mz2,mz3⟩:=aid hn2
 by_cases h17:s.size<17
 ·go_wp2_with fail
  refine bodyPost_ret (aey (hn1.put4 _ _ _ _) rfl rfl) rfl ?_
  exact⟨ac8 hb0 (Nat.le_refl _) _ _ _ _,⟨false,0,0,0⟩,false,rfl,.inr ⟨rfl,fun e' h=>by rw[HSL.out] at h;omega⟩⟩
 ·have hN: ∀a b,Calls Tryz.prog 105 #[.string (s.extract a b)] W fun e w'=>a4e ((s.data.toList.drop a).take (b-a)) W e w':=fun a b=>by
   have:=ala (s.extract a b) (by
    have:(s.extract a b).size≤s.size:=by simp;omega
    omega) W
   rwa [ann] at this
  have hc1:=hN 2 6
  have hc2:=hN 7 11
  have hc3:=hN 12 16
  clear hN
  go_wp2_with fail
  refine hc1.mono ?_
  rintro _ w1 ⟨x1,b1,rfl,hx1,rfl⟩
  go_wp2_with fail
  refine hc2.mono ?_
  rintro _ w1 ⟨x2,b2,rfl,hx2,rfl⟩
  go_wp2_with fail
  refine hc3.mono ?_
  rintro _ w1 ⟨x3,b3,rfl,hx3,rfl⟩
  clear hc1 hc2 hc3
  obtain⟨va,hva⟩: ∃va,(((s[1]'(by omega)).toNat:Int)==42)=va:=⟨_,rfl⟩
  go_upto_region 8 with fail
  have HVA:Hid (va=decide (s.data.toList[1]? =some 42)):=by
   show _=_
   have h1:s.data.toList[1]? =some (s[1]'(by omega)):=by
    rw[List.getElem?_eq_getElem (by rw[HSL.out];omega)]
    rfl
   rw[←hva,h1]
   by_cases hq:(s[1]'(by omega))=42
   ·rw[hq];decide
   ·rw[decide_eq_false (show ¬some (s[1]'(by omega))=some (42:UInt8) by simp[hq])]
    have:((s[1]'(by omega)).toNat:Int)≠42:=fun e=>hq (UInt8.toNat_inj.1 (by have h42:(42:UInt8).toNat=42:=rfl;omega))
    simpa using this
  have hr2:Blk ((((W.setCell ⟨w.heap.size+1,0,none⟩ (.bool va)).setCell ⟨w.heap.size+1,1,none⟩ (.int .i64 x1)).setCell ⟨w.heap.size+1,2,none⟩ (.int .i64 x2)).setCell ⟨w.heap.size+1,3,none⟩ (.int .i64 x3)) (w.heap.size+1) 133 #[.bool va,.int .i64 x1,.int .i64 x2,.int .i64 x3]:=hn2.put4 _ _ _ _
  have hr1:Blk ((((W.setCell ⟨w.heap.size+1,0,none⟩ (.bool va)).setCell ⟨w.heap.size+1,1,none⟩ (.int .i64 x1)).setCell ⟨w.heap.size+1,2,none⟩ (.int .i64 x2)).setCell ⟨w.heap.size+1,3,none⟩ (.int .i64 x3)) w.heap.size 133 #[.bool false,.int .i64 0,.int .i64 0,.int .i64 0]:=hn1.below (ac8 (Below.refl (w.heap.size+1) W) (Nat.le_refl _) _ _ _ _) (by omega)
  have hb2:Below w.heap.size w ((((W.setCell ⟨w.heap.size+1,0,none⟩ (.bool va)).setCell ⟨w.heap.size+1,1,none⟩ (.int .i64 x1)).setCell ⟨w.heap.size+1,2,none⟩ (.int .i64 x2)).setCell ⟨w.heap.size+1,3,none⟩ (.int .i64 x3)):=ac8 hb0 (by omega) _ _ _ _
  generalize (((W.setCell ⟨w.heap.size+1,0,none⟩ (.bool va)).setCell ⟨w.heap.size+1,1,none⟩ (.int .i64 x1)).setCell ⟨w.heap.size+1,2,none⟩ (.int .i64 x2)).setCell ⟨w.heap.size+1,3,none⟩ (.int .i64 x3)=W2 at*
  clear r0 r1 r2 r3 rz0 rz1 rz2 rz3 m0 m1 m2 m3 mz0 mz1 mz2 mz3 hn1 hn2 hva
  obtain⟨r0,r1,r2,r3,rz0,rz1,rz2,rz3⟩:=aid hr1
  obtain⟨m0,m1,m2,m3,mz0,mz1,mz2,mz3⟩:=aid hr2
  have hlen17:17≤s.data.toList.length:=by rw[HSL.out];omega
  have HL17:Hid (17≤s.data.toList.length):=hlen17
  clear hlen17
  rcases hx1 with ⟨rfl,n1,rfl,g1,e1⟩ | ⟨rfl,e1⟩
  ·rcases hx2 with ⟨rfl,n2,rfl,g2,e2⟩ | ⟨rfl,e2⟩
   ·rcases hx3 with ⟨rfl,n3,rfl,g3,e3⟩ | ⟨rfl,e3⟩
    ·obtain⟨⟨k1,k2,k3⟩,kt,kf⟩:=a1m HL17.out e1 e2 e3 HVA.out
     have HKT:Hid _:=kt
     have HKF:Hid _:=kf
     clear kt kf e1 e2 e3 g1 g2 g3
     have HS:Hid (∀x y,(Below w.heap.size w x∧Blk x (w.heap.size+1) 133 #[.bool va,.int .i64 (n1:Int),.int .i64 (n2:Int),.int .i64 (n3:Int)]∧ ∃a b c d,Blk x w.heap.size 133 #[a,b,c,d])→Below x.heap.size x y→(Below w.heap.size w y∧Blk y (w.heap.size+1) 133 #[.bool va,.int .i64 (n1:Int),.int .i64 (n2:Int),.int .i64 (n3:Int)]∧ ∃a b c d,Blk y w.heap.size 133 #[a,b,c,d])):=fun x y h hb=>by
      obtain⟨h1,h2,a,b,c,d,h3⟩:=h
      exact⟨h1.trans (hb.mono h1.size),h2.below hb h2.lt,a,b,c,d,h3.below hb h3.lt⟩
     have HEL:Hid (∀X,Calls Tryz.prog 123 #[.agg #[.bool va,.int .i64 (n1:Int),.int .i64 (n2:Int),.int .i64 (n3:Int)]] X fun e w'=>e=.returned (.string (bsz (elP ⟨va,n1,n2,n3⟩)))∧Below X.heap.size X w'):=fun X=>ahv va n1 n2 n3 k1 k2 k3 X
     generalize elP ⟨va,n1,n2,n3⟩=ep at*
     refine wp_region_held_drew (S:=fun x=>Below w.heap.size w x∧Blk x (w.heap.size+1) 133 #[.bool va,.int .i64 (n1:Int),.int .i64 (n2:Int),.int .i64 (n3:Int)]∧ ∃a b c d,Blk x w.heap.size 133 #[a,b,c,d]) (by kernel_rfl) ⟨hb2.drew,hr2,_,_,_,_,hr1⟩ (fun hHeld=> ?_)
     refine aaa (i:=0) (some 40) (v:= ?v0) rfl rfl (by kernel_rfl) (by kernel_rfl) (by kernel_rfl) (fun _ _ _ h=>h) (Or.inl ⟨by kernel_rfl,?hy0⟩) (by assumption) ?rest0
     case hy0=>(intro x hSx;obtain⟨c0,c1,c2,c3,cz0,cz1,cz2,cz3⟩:=aid hSx.2.1;(try dsimp only at hSx);go_simp;first | done | with_reducible rfl)
     try simp only[Act.put,List.setIfInBounds_toArray,List.set_cons_zero,List.set_cons_succ]
     refine aaa (i:=1) (some 41) (v:= ?v1) rfl rfl (by kernel_rfl) (by kernel_rfl) (by kernel_rfl) (fun _ _ _ h=>h) (Or.inl ⟨by kernel_rfl,?hy1⟩) (by assumption) ?rest1
     case hy1=>(intro x hSx;(try dsimp only at hSx);go_simp;first | done | with_reducible rfl)
     try simp only[Act.put,List.setIfInBounds_toArray,List.set_cons_zero,List.set_cons_succ]
     refine aaa (i:=2) (some 42) (v:= ?v2) rfl rfl (by kernel_rfl) (by kernel_rfl) (by kernel_rfl) (fun _ _ _ h=>h) (Or.inl ⟨by kernel_rfl,?hy2⟩) (by assumption) ?rest2
     case hy2=>(intro x hSx;(try dsimp only at hSx);go_simp;first | done | with_reducible rfl)
     try simp only[Act.put,List.setIfInBounds_toArray,List.set_cons_zero,List.set_cons_succ]
     refine aaa (i:=3) (some 43) (v:= ?v3) rfl rfl (by kernel_rfl) (by kernel_rfl) (by kernel_rfl) (fun _ _ _ h=>h) (Or.inl ⟨by kernel_rfl,?hy3⟩) (by assumption) ?rest3
     case hy3=>(intro x hSx;(try dsimp only at hSx);go_simp;first | done | with_reducible rfl)
     try simp only[Act.put,List.setIfInBounds_toArray,List.set_cons_zero,List.set_cons_succ]
     refine aaa (i:=4) (some 44) (v:= ?v4) rfl rfl (by kernel_rfl) (by kernel_rfl) (by kernel_rfl) (fun _ _ _ h=>h) (Or.inl ⟨by kernel_rfl,?hy4⟩) (by assumption) ?rest4
     case hy4=>(intro x hSx;(try dsimp only at hSx);go_simp;first | done | with_reducible rfl)
     try simp only[Act.put,List.setIfInBounds_toArray,List.set_cons_zero,List.set_cons_succ]
     refine aaa (i:=5) (some 45) (v:= ?v5) rfl rfl (by kernel_rfl) (by kernel_rfl) (by kernel_rfl) (fun _ _ _ h=>h) (Or.inl ⟨by kernel_rfl,?hy5⟩) (by assumption) ?rest5
     case hy5=>(intro x hSx;(try dsimp only at hSx);go_simp;first | done | with_reducible rfl)
     try simp only[Act.put,List.setIfInBounds_toArray,List.set_cons_zero,List.set_cons_succ]
     refine aaa (i:=6) (some 46) (v:= ?v6) rfl rfl (by kernel_rfl) (by kernel_rfl) (by kernel_rfl) (fun _ _ _ h=>h) (Or.inl ⟨by kernel_rfl,?hy6⟩) (by assumption) ?rest6
     case hy6=>(intro x hSx;(try dsimp only at hSx);go_simp;first | done | with_reducible rfl)
     try simp only[Act.put,List.setIfInBounds_toArray,List.set_cons_zero,List.set_cons_succ]
     refine aaa (i:=7) (some 47) (v:= ?v7) rfl rfl (by kernel_rfl) (by kernel_rfl) (by kernel_rfl) (fun _ _ _ h=>h) (Or.inl ⟨by kernel_rfl,?hy7⟩) (by assumption) ?rest7
     case hy7=>(intro x hSx;(try dsimp only at hSx);go_simp;first | done | with_reducible rfl)
     try simp only[Act.put,List.setIfInBounds_toArray,List.set_cons_zero,List.set_cons_succ]
     refine aaa (i:=8) (some 48) (v:= ?v8) rfl rfl (by kernel_rfl) (by kernel_rfl) (by kernel_rfl) (fun _ _ _ h=>h) (Or.inl ⟨by kernel_rfl,?hy8⟩) (by assumption) ?rest8
     case hy8=>(intro x hSx;(try dsimp only at hSx);go_simp;first | done | with_reducible rfl)
     try simp only[Act.put,List.setIfInBounds_toArray,List.set_cons_zero,List.set_cons_succ]
     refine aaa (i:=9) (some 49) (v:= ?v9) rfl rfl (by kernel_rfl) (by kernel_rfl) (by kernel_rfl) (fun _ _ _ h=>h) (Or.inl ⟨by kernel_rfl,?hy9⟩) (by assumption) ?rest9
     case hy9=>(intro x hSx;obtain⟨c0,c1,c2,c3,cz0,cz1,cz2,cz3⟩:=aid hSx.2.1;(try dsimp only at hSx);go_simp;first | done | with_reducible rfl)
     try simp only[Act.put,List.setIfInBounds_toArray,List.set_cons_zero,List.set_cons_succ]
     refine aaa (i:=11) (some 51) (v:= ?v11) rfl rfl (by kernel_rfl) (by kernel_rfl) (by kernel_rfl) (fun _ _ _ h=>h) (Or.inl ⟨by kernel_rfl,?hy11⟩) (by assumption) ?rest11
     case hy11=>(intro x hSx;(try dsimp only at hSx);go_simp;first | done | with_reducible rfl)
     try simp only[Act.put,List.setIfInBounds_toArray,List.set_cons_zero,List.set_cons_succ]
     refine aaa (i:=12) (some 52) (v:= ?v12) rfl rfl (by kernel_rfl) (by kernel_rfl) (by kernel_rfl) (fun _ _ _ h=>h) (Or.inl ⟨by kernel_rfl,?hy12⟩) (by assumption) ?rest12
     case hy12=>(intro x hSx;(try dsimp only at hSx);go_simp;first | done | with_reducible rfl)
     try simp only[Act.put,List.setIfInBounds_toArray,List.set_cons_zero,List.set_cons_succ]
     refine wpAnyH_ready (rs:=[10]) (by kernel_rfl) (by simp) ?_
     refine AllReadyH.cons rfl (fun K hK=> ?_) AllReadyH.nil
     go_simp
     go_wp2_with (go_at_call 123;refine(HEL.out _).mono ?_;rintro e y ⟨rfl,hby⟩)
     refine hK.out _ _ (HS.out _ _ hHeld hby) (fun hHeld2=> ?_)
     clear hK K
     try simp only[Act.put,List.setIfInBounds_toArray,List.set_cons_zero,List.set_cons_succ]
     obtain⟨B,hB⟩: ∃B,(ep==(s.extract 0 17).toList)=B:=⟨_,rfl⟩
     refine aaa (i:=13) (some 53) (v:= ?v13) rfl rfl (by kernel_rfl) (by kernel_rfl) (by kernel_rfl) (fun _ _ _ h=>h) (Or.inl ⟨by kernel_rfl,?hy13⟩) (by assumption) ?rest13
     case hy13=>(intro x hSx;(try dsimp only at hSx);go_simp;first | done | with_reducible rfl)
     try simp only[Act.put,List.setIfInBounds_toArray,List.set_cons_zero,List.set_cons_succ]
     refine aaa (i:=14) (some 54) (v:= ?v14) rfl rfl (by kernel_rfl) (by kernel_rfl) (by kernel_rfl) (fun _ _ _ h=>h) (Or.inl ⟨by kernel_rfl,?hy14⟩) (by assumption) ?rest14
     case hy14=>(intro x hSx;(try dsimp only at hSx);go_simp;first | done | with_reducible rfl)
     try simp only[Act.put,List.setIfInBounds_toArray,List.set_cons_zero,List.set_cons_succ]
     refine wpAnyH_ready (rs:=[15]) (by kernel_rfl) (by simp) ?_
     refine AllReadyH.cons rfl (fun K hK=> ?_) AllReadyH.nil
     obtain⟨h1,h2,d0,d1,d2,d3,h3⟩:=hHeld2
     obtain⟨q0,q1,q2,q3,qz0,qz1,qz2,qz3⟩:=aid h3
     go_simp
     refine hK.out _ _ ⟨ac8 h1 (Nat.le_refl _) _ _ _ _,amq h2 (by omega) _ _ _ _,_,_,_,_,h3.put4 _ _ _ _⟩ (fun hHeld3=> ?_)
     clear hK K
     try simp only[Act.put,List.setIfInBounds_toArray,List.set_cons_zero,List.set_cons_succ]
     refine aaa (i:=16) (some 3) (v:= ?v16) rfl rfl (by kernel_rfl) (by kernel_rfl) (by kernel_rfl) (fun _ _ _ h=>h) (Or.inl ⟨by kernel_rfl,?hy16⟩) (by assumption) ?rest16
     case hy16=>(intro x hSx;(try dsimp only at hSx);go_simp;first | done | with_reducible rfl)
     try simp only[Act.put,List.setIfInBounds_toArray,List.set_cons_zero,List.set_cons_succ]
     refine wpAnyH_done (by kernel_rfl) ?_ _
     have hfin:=h3.put4 (.bool va) (.int .i64 (n1:Int)) (.int .i64 (n2:Int)) (.int .i64 (n3:Int))
     have hbf:=ac8 (h:=w.heap.size) h1 (Nat.le_refl _) (.bool va) (.int .i64 (n1:Int)) (.int .i64 (n2:Int)) (.int .i64 (n3:Int))
     have hB2:B=decide (ep=s.data.toList.take 17):=by
      rw[←hB,ByteArray.toList_eq,ann,List.drop_zero,Nat.sub_zero]
      by_cases he:ep=s.data.toList.take 17
      ·rw[he];simp
      ·rw[decide_eq_false he,beq_eq_false_iff_ne];exact he
     have HB2:Hid _:=hB2
     unfold put4 at hfin hbf
     clear hB hB2
     generalize (((y.setCell ⟨w.heap.size,0,none⟩ (.bool va)).setCell ⟨w.heap.size,1,none⟩ (.int .i64 (n1:Int))).setCell ⟨w.heap.size,2,none⟩ (.int .i64 (n2:Int))).setCell ⟨w.heap.size,3,none⟩ (.int .i64 (n3:Int))=y2 at*
     go_wp2_with fail
     refine bodyPost_ret (aey hfin rfl rfl) rfl ?_
     refine⟨hbf,⟨va,n1,n2,n3⟩,B,rfl,?_⟩
     by_cases he:ep=s.data.toList.take 17
     ·exact .inl ⟨by rw[HB2.out];exact decide_eq_true he,HL17.out,HKT.out he⟩
     ·exact .inr ⟨by rw[HB2.out];exact decide_eq_false he,fun e' _=>HKF.out he e'⟩
    ·have HB:Hid _:=aoj (l:=s.data.toList) (.inr (.inr e3))
     clear e3
     go_region
     go_wp2_with fail
     refine bodyPost_ret (aey ((show Blk W2.drew w.heap.size 133 _ from hr1).put4 _ _ _ _) rfl rfl) rfl ?_
     exact⟨ac8 hb2.drew (Nat.le_refl _) _ _ _ _,⟨va,_,_,_⟩,false,rfl,.inr ⟨rfl,HB.out⟩⟩
   ·have HB:Hid _:=aoj (l:=s.data.toList) (.inr (.inl e2))
    clear e2
    go_region
    go_wp2_with fail
    refine bodyPost_ret (aey ((show Blk W2.drew w.heap.size 133 _ from hr1).put4 _ _ _ _) rfl rfl) rfl ?_
    exact⟨ac8 hb2.drew (Nat.le_refl _) _ _ _ _,⟨va,_,_,_⟩,false,rfl,.inr ⟨rfl,HB.out⟩⟩
  ·have HB:Hid _:=aoj (l:=s.data.toList) (.inl e1)
   clear e1
   go_region
   go_wp2_with fail
   refine bodyPost_ret (aey ((show Blk W2.drew w.heap.size 133 _ from hr1).put4 _ _ _ _) rfl rfl) rfl ?_
   exact⟨ac8 hb2.drew (Nat.le_refl _) _ _ _ _,⟨va,_,_,_⟩,false,rfl,.inr ⟨rfl,HB.out⟩⟩
end Go.Proofs.YtpfkoldfbecdlaaGreatDoor
namespace Go.Proofs.YtpfkoldfbecdlaaGreatDoor
open Go.Vf
theorem a2z {e:El}: ∀b∈elP e,b≠59:=by
 intro b hb
 unfold elP at hb
 simp only[List.mem_cons,List.mem_append,List.not_mem_nil,or_false] at hb
 rcases hb with rfl | rfl | hb | rfl | hb | rfl | hb | rfl
 ·decide
 ·split<;>decide
 ·exact(abq hb).2.2.1
 ·decide
 ·exact(abq hb).2.2.1
 ·decide
 ·exact(abq hb).2.2.1
 ·decide
theorem ano {l:List UInt8}{x:Ent}(h:aem l=some x):rowR (aig 59 l).1=some x.1∧aii (aig 59 l).2=some x.2:=by
 unfold aem at h
 split at h
 ·cases h
 ·rename_i p hp
  split at h
  ·cases h
  ·rename_i e he
   cases h
   exact⟨hp,he⟩
theorem ao8 {l a b:List UInt8}(h:aa5 59 l=[a,b]):aig 59 l=(a,b):=by
 have hj:=ai3 59 l
 rw[h] at hj
 simp only[List.flatMap_cons,List.flatMap_nil,List.append_nil] at hj
 have hn:=a5c 59 l a (by rw[h];simp)
 rw[hj]
 exact ant 59 a b hn
theorem a2t {l:List UInt8}(h:(aa5 59 l).length≠2):aem l=none:=by
 cases hx:aem l with
 | none=>rfl
 | some x=>
  exfalso
  have e:=aq3 hx
  have h1:aa5 59 l=[ax8 x.1,afd x.2]:=by
   rw[e,agu,acj 59 _ _ (fun b hb=>(a1i b hb).2),ady]
   intro b hb
   obtain⟨y,_,hy⟩:=List.mem_flatMap.1 hb
   exact a2z b hy
  rw[h1] at h
  exact h rfl
theorem a48 {l a b:List UInt8}(h:aa5 59 l=[a,b]){p:List Int}{e:List El}(hp:rowR a=some p)(he:aii b=some e):aem l=some (p,e):=by
 unfold aem
 rw[ao8 h]
 simp only[hp,he]
theorem ajp {l a b:List UInt8}(h:aa5 59 l=[a,b])(hp:rowR a=none):aem l=none:=by
 unfold aem
 rw[ao8 h]
 simp only[hp]
theorem anp {l a b:List UInt8}(h:aa5 59 l=[a,b])(hp:aii b=none):aem l=none:=by
 cases hx:aem l with
 | none=>rfl
 | some x=>
  have:=(ano hx).2
  rw[ao8 h,hp] at this
  cases this
theorem ajh {a:List UInt8}{p:List Int}(h:rowR a=some p):aa5 32 a=(p.map Int.toNat).map aad∧(aa5 32 a).length=p.length∧ac9 p=true:=by
 unfold rowR at h
 split at h
 ·cases h
 ·rename_i l hl
  split at h
  ·rename_i hb
   cases h
   obtain⟨h1,h2⟩:=aqc _ _ hl
   exact⟨h1,h2,hb⟩
  ·cases h
theorem ap1 {p:List Int}(h:ac9 p=true):1≤p.length∧p.length≤8:=by
 unfold ac9 at h
 simp only[Bool.and_eq_true,decide_eq_true_eq] at h
 exact⟨h.1.1,h.1.2⟩
theorem ax5 {a:List UInt8}(h:8<(aa5 32 a).length):rowR a=none:=by
 cases hx:rowR a with
 | none=>rfl
 | some p=>
  obtain⟨_,h2,h3⟩:=ajh hx
  have:=ap1 h3
  omega
theorem a1h {a:List UInt8}{i:Nat}(hi:i<(aa5 32 a).length)(h: ∀n:Nat,abm (n:Int)=true→(aa5 32 a)[i]≠aad n):rowR a=none:=by
 cases hx:rowR a with
 | none=>rfl
 | some p=>
  exfalso
  obtain⟨h1,h2,h3⟩:=ajh hx
  have hip:i<p.length:=by omega
  have hb:abm p[i]=true:=by
   unfold ac9 at h3
   simp only[Bool.and_eq_true] at h3
   exact List.all_eq_true.1 h3.2 _ (List.getElem_mem hip)
  obtain⟨u,e,_⟩:=ad9 hb
  refine h u (by rw[←e];exact hb) ?_
  have h4:(aa5 32 a)[i]? =some (aad u):=by
   rw[h1]
   simp[hip,e]
  rw[List.getElem?_eq_getElem hi] at h4
  exact Option.some.inj h4
theorem ax6 {a:List UInt8}{us:List Nat}(h:aa5 32 a=us.map aad)(h8:us.length≤8)(hb: ∀u∈us,abm (u:Int)=true):rowR a=some (us.map fun q:Nat=>(q:Int)):=by
 have hle: ∀q∈us,q≤1114111:=fun q hq=>by
  obtain⟨u,e,hu⟩:=ad9 (hb q hq)
  omega
 have h1:1≤us.length:=by
  have:=List.length_pos_iff.2 (aif 32 a)
  rw[h,List.length_map] at this
  omega
 unfold rowR
 rw[h,a1n us hle]
 have hr:ac9 (us.map fun q:Nat=>(q:Int))=true:=by
  unfold ac9
  simp only[Bool.and_eq_true,decide_eq_true_eq,List.length_map]
  refine⟨⟨h1,h8⟩,List.all_eq_true.2 fun x hx=> ?_⟩
  obtain⟨u,hu,rfl⟩:=List.mem_map.1 hx
  exact hb u hu
 simp only[hr,if_true]
theorem al0 (a b:List El):afd (a++b)=afd a++afd b:=by simp[afd]
theorem elsR_len {b:List UInt8}{l:List El}(h:aii b=some l):1≤l.length∧l.length≤16:=by
 obtain⟨h1,h2⟩:=aiz h
 have h3:=adp l h2
 rw[←h1] at h3
 unfold aii at h
 split at h
 ·cases h
 ·rename_i hn
  simp only[not_or,Decidable.not_not] at hn
  obtain⟨n1,n2,n3⟩:=hn
  have:b.length≠0:=fun e=>n1 (List.eq_nil_of_length_eq_zero e)
  omega
theorem a2w {b r:List UInt8}{acc:List El}(hb:b=afd acc++r)(hw: ∀e∈acc,wtE e)(hr:r≠ [])(h: ∀e',17≤r.length→elR (r.take 17)≠some e'):aii b=none:=by
 cases hx:aii b with
 | none=>rfl
 | some l=>
  exfalso
  obtain⟨h1,h2⟩:=aiz hx
  have hla:=adp acc hw
  have hll:=adp l h2
  have hlt:acc.length<l.length:=by
   have:0<r.length:=List.length_pos_iff.2 hr
   have e:(afd acc++r).length=(afd l).length:=by rw[←hb,h1]
   rw[List.length_append] at e
   omega
  have hl2:l=l.take acc.length++l.drop acc.length:=(List.take_append_drop _ _).symm
  have h3:afd acc++r=afd (l.take acc.length)++afd (l.drop acc.length):=by rw[←al0,←hl2,←hb,h1]
  have hlt2:(afd (l.take acc.length)).length=(afd acc).length:=by
   rw[adp _ (fun e he=>h2 e (List.mem_of_mem_take he)),hla,List.length_take]
   omega
  have h4:=(List.append_inj h3 hlt2.symm).2
  rw[List.drop_eq_getElem_cons hlt] at h4
  have hwt:=h2 _ (List.getElem_mem hlt)
  have h5:r=elP l[acc.length]++afd (l.drop (acc.length+1)):=h4
  have h6:=atk hwt
  refine h l[acc.length] (by rw[h5,List.length_append];omega) ?_
  rw[h5,List.take_append_of_le_length (by omega),List.take_of_length_le (by omega)]
  exact atj hwt
theorem a2v {b:List UInt8}{acc:List El}(hb:b=afd acc)(hw: ∀e∈acc,wtE e):(1≤acc.length∧acc.length≤16→aii b=some acc)∧(¬(1≤acc.length∧acc.length≤16)→aii b=none):=by
 refine⟨fun h=>by rw[hb];exact a0d h.1 h.2 hw,fun h=> ?_⟩
 cases hx:aii b with
 | none=>rfl
 | some l=>
  exfalso
  have h1:=elsR_len hx
  obtain⟨h2,h3⟩:=aiz hx
  have h4:=adp acc hw
  have h5:=adp l h3
  rw[←h2,hb] at h5
  omega
theorem a0c {b r:List UInt8}{acc:List El}{e:El}(hb:b=afd acc++r)(hl:17≤r.length)(h:elR (r.take 17)=some e):b=afd (acc++[e])++r.drop 17∧wtE e:=by
 obtain⟨hw,hp⟩:=atl (by rw[List.length_take];omega) h
 refine⟨?_,hw⟩
 rw[hb,al0]
 have:afd [e]=r.take 17:=by rw[hp];simp[afd]
 rw[this,List.append_assoc,List.take_append_drop]
end Go.Proofs.YtpfkoldfbecdlaaGreatDoor
