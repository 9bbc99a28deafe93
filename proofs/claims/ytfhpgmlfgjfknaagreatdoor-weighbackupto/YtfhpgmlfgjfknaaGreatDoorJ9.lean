/- Contracts and lemmas (nothing is claimed here). -/
import Derived.Test.YtfhpgmlfgjfknaaGreatDoorJ8
namespace Go.Proofs.YtfhpgmlfgjfknaaGreatDoor
open Go.RowKit Go.Vf Go.Maps
set_option maxRecDepth 10000 in
theorem a88 (w:World)(ht:w.cell? ⟨8,15,none⟩=some (.int .u8 4)):Calls Tryz.prog 253 #[.int .u64 16] w fun e w'=>e=.returned (.int .i64 4)∧w=w':=by
 have e1:IntKind.u64.wrap (-16)=18446744073709551600:=by decide
 have e2:bits BinOp.and IntKind.u64 16 18446744073709551600=16:=by decide
 have e3:IntKind.u64.wrap (16*285870213051353865)=4573923408821661840:=by decide
 go_enter Tryz.func253,Tryz.ntmps253
 go_wp2
 go_ret
 exact⟨rfl,rfl⟩
theorem tz (w:World)(ht:w.cell? ⟨8,15,none⟩=some (.int .u8 4)):Calls Tryz.prog 248 #[.int .u64 16] w fun e w'=>e=.returned (.int .i64 4)∧w=w':=by
 go_enter Tryz.func248,Tryz.ntmps248
 go_wp2_with fail
 refine(a88 w ht).mono ?_
 rintro e w1 ⟨rfl,rfl⟩
 go_wp2
 go_ret
 exact⟨rfl,rfl⟩
theorem a9b (w:World):Calls Tryz.prog 247 #[.int .i64 16] w fun e w'=>e=.returned (.bool true)∧w=w':=by
 have e1:bits BinOp.and IntKind.i64 16 15=0:=by decide
 go_enter Tryz.func247,Tryz.ntmps247
 go_wp2
 go_ret
 exact⟨rfl,rfl⟩
theorem a83 (u:Nat)(hu:u<16^8):bits BinOp.and IntKind.u64 (u:Int) 15=((u % 16:Nat):Int):=by
 have h:=bits_and_u64_nat u 15 (by omega) (by omega)
 rw[show ((15:Nat):Int)=15 from rfl] at h
 rw[h]
 congr 1
 exact Nat.and_two_pow_sub_one_eq_mod u 4
theorem a5l: ∀(d:Nat) (_:d<16) (h':d<(⟨#[48,49,50,51,52,53,54,55,56,57,97,98,99,100,101,102,103,104,105,106,107,108,109,110,111,112,113,114,115,116,117,118,119,120,121,122]⟩:ByteArray).size),((⟨#[48,49,50,51,52,53,54,55,56,57,97,98,99,100,101,102,103,104,105,106,107,108,109,110,111,112,113,114,115,116,117,118,119,120,121,122]⟩:ByteArray)[d]'h').toNat=(adn d).toNat:=by
 intro d h h'
 have hd:d=0∨d=1∨d=2∨d=3∨d=4∨d=5∨d=6∨d=7∨d=8∨d=9∨d=10∨d=11∨d=12∨d=13∨d=14∨d=15:=by omega
 rcases hd with rfl | rfl | rfl | rfl | rfl | rfl | rfl | rfl | rfl | rfl | rfl | rfl | rfl | rfl | rfl | rfl<;>rfl
theorem aja {α:Type}(l:List α)(n:Nat)(a:α)(h:n<l.length):(l.set n a).drop n=a::l.drop (n+1):=by
 induction l generalizing n with
 | nil=>simp at h
 | cons b r ih=>
  cases n with
  | zero=>simp
  | succ n=>simpa using ih n (by simpa using h)
theorem ayt {w:World}{b:Nat}{cs:Array Value}{l:List UInt8}{off n c:Nat}(h:Blk w b 307 cs)(hl:cs.toList.drop off=aa7 l)(hn:n=l.length):
  (convert 74 9 (.slice (some ⟨b,off,none⟩) n c)).run Tryz.prog w=.ok (.string (bsz l)) w:=by
 subst hn
 have hc:=run_convert_bytes_arg (P:=Tryz.prog) w 74 5 Tryz.underlying74 Tryz.underlying5 b off l.length c (l.map fun x=>(x.toNat:Int)) (by simp) (fun i hi=>by
  rw[h.cell]
  have e1:cs.toList[off+i]? =(aa7 l)[i]?:=by rw[←hl,List.getElem?_drop]
  have hi':i<l.length:=by simpa using hi
  rw[←Array.getElem?_toList,e1]
  simp[aa7,List.getD,hi']) 9 Tryz.underlying9
 rw[hc]
 have e:strOfNums (l.map fun x=>(x.toNat:Int))=bsz l:=aps (by rw[strOfNums_data];simp[Function.comp_def])
 rw[e]
theorem amp {tmps:Array Value}{w:World}{a b:Value}(t2:tmps[10]?.getD undef=a)(t3:tmps[11]?.getD undef=b):
  (results Tryz.f238 tmps).run Tryz.prog w=.ok (.tuple #[a,b]) w:=by
 simp[results,Tryz.results238,go_sem,t2,t3]
theorem a5q:Tryz.zeroCells307.size=65:=by kernel_rfl
set_option maxHeartbeats 4000000 in
set_option maxRecDepth 20000 in
theorem a82 (u:Nat)(hu:u<16^8)(w:World)(ht:w.cell? ⟨8,15,none⟩=some (.int .u8 4)):
  Calls Tryz.prog 238 #[.slice none 0 0,.int .u64 (u:Int),.int .i64 16,.bool false,.bool false] w fun e w'=>e=.returned (.tuple #[.slice none 0 0,.string (bsz (aca u))])∧Below w.heap.size w w':=by
 have hlt:=World.block_lt_of_cell? w _ ht
 have hbn:=Blk.new w 307 Tryz.zeroCells307
 have hb0:=(Below.refl w.heap.size w).alloc (Nat.le_refl _) (.cells Tryz.zeroCells307 307)
 have ht0:=(hb0.cell (p:=⟨8,15,none⟩) hlt).trans ht
 go_enter Tryz.func238,Tryz.ntmps238
 go_wp2_with fail
 generalize w.alloc (.cells Tryz.zeroCells307 307)=W at hbn hb0 ht0⊢
 have hz:=a5q
 generalize Tryz.zeroCells307=cs0 at hbn hz
 refine(a9b W).mono ?_
 rintro e w1 ⟨rfl,rfl⟩
 go_wp2_with fail
 refine(tz W ht0).mono ?_
 rintro e w1 ⟨rfl,rfl⟩
 go_wp2_with fail
 go_loopw [1,13] (fun x i wr=> ∃(v ix:Nat) (cs:Array Value) (acc:List UInt8),x=.int .u64 (v:Int)∧i=.int .i64 (ix:Int)∧ix+acc.length=65∧v<16^(8-acc.length)∧acc.length≤7∧Blk wr w.heap.size 307 cs∧cs.size=65∧Hid (cs.toList.drop ix=aa7 acc)∧Hid (aca v++acc=aca u)∧Below w.heap.size w wr) (fun x _ _=>(intOf x).toNat)
 case atStart=>exact⟨u,65,cs0,[],rfl,rfl,rfl,by simpa using hu,by simp,hbn,hz,by show _=_;simp[aa7,hz],by show _=_;simp,hb0⟩
 case round=>
  obtain⟨v,ix,cs,acc,rfl,rfl,hix,hv,hal,hbk,hcs,HC,HX,hbel⟩:=hrel
  have hp8:16^(8-acc.length)≤16^8:=Nat.pow_le_pow_right (by omega) (by omega)
  have hv8:v<16^8:=by omega
  by_cases hbig:16≤v
  ·have hand:=a83 v hv8
   have hm:=Nat.mod_lt v (show 0<16 by omega)
   have c0: ∃u0,wr.cell? ⟨w.heap.size,ix-1,none⟩=some u0:=⟨cs[ix-1]'(by omega),by rw[hbk.cell];exact Array.getElem?_eq_getElem (by omega)⟩
   obtain⟨u0,c0⟩:=c0
   have f0:=hbk.frozen (ix-1)
   obtain⟨iy,hiy⟩: ∃iy,iy=ix-1:=⟨_,rfl⟩
   rw[←hiy] at c0 f0
   have hiy1:((ix:Int)-1)=(iy:Int):=by omega
   have hiy2:iy<65:=by omega
   generalize hdd:v % 16=dd at hand hm
   have HDD:Hid (v % 16=dd):=hdd
   clear hdd
   have hn6:acc.length≤6:=by
    by_cases h7:acc.length=7
    ·rw[h7] at hv;omega
    ·omega
   have hpw:v/16<16^(8-(acc.length+1)):=by
    have e:8-acc.length=(8-(acc.length+1))+1:=by omega
    rw[e,Nat.pow_succ] at hv
    omega
   have hdrop:(cs.setIfInBounds iy (.int .u8 ((adn dd).toNat:Int))).toList.drop iy=aa7 (adn dd::acc):=by
    rw[Array.toList_setIfInBounds,aja _ _ _ (by rw[Array.length_toList];omega),show iy+1=ix by omega,HC.out]
    try rfl
   have HDR:Hid ((cs.setIfInBounds iy (.int .u8 ((adn dd).toNat:Int))).toList.drop iy=aa7 (adn dd::acc)):=hdrop
   have HX2:Hid (aca (v/16)++(adn dd::acc)=aca u):=by
    show _=_
    rw[←HX.out,ahk hbig,HDD.out];simp
   clear hdrop HX HC hiy
   go_wp2_with fail
   rw[a5l dd hm]
   go_roundw
   case rel=>exact⟨v/16,iy,_,adn dd::acc,by simp,rfl,by simp;omega,hpw,by simp;omega,hbk.set iy _,by simpa using hcs,HDR,HX2,hbel.setCell (p:=⟨w.heap.size,iy,none⟩) (Nat.le_refl _) _⟩
   case measure=>simp only[intOf];omega
  ·have hm:v<16:=by omega
   have c0: ∃u0,wr.cell? ⟨w.heap.size,ix-1,none⟩=some u0:=⟨cs[ix-1]'(by omega),by rw[hbk.cell];exact Array.getElem?_eq_getElem (by omega)⟩
   obtain⟨u0,c0⟩:=c0
   have f0:=hbk.frozen (ix-1)
   obtain⟨iy,hiy⟩: ∃iy,iy=ix-1:=⟨_,rfl⟩
   rw[←hiy] at c0 f0
   have hiy1:((ix:Int)-1)=(iy:Int):=by omega
   have hiy2:iy<65:=by omega
   have hdrop:(cs.setIfInBounds iy (.int .u8 ((adn v).toNat:Int))).toList.drop iy=aa7 (adn v::acc):=by
    rw[Array.toList_setIfInBounds,aja _ _ _ (by rw[Array.length_toList];omega),show iy+1=ix by omega,HC.out]
    try rfl
   have hbk2:=hbk.set iy (.int .u8 ((adn v).toNat:Int))
   have hcv:=ayt (n:=65-iy) (c:=65-iy) hbk2 hdrop (by simp;omega)
   have HX2:Hid (adn v::acc=aca u):=by
    show _=_
    rw[←HX.out,afo hbig];rfl
   have hb2:=hbel.setCell (p:=⟨w.heap.size,iy,none⟩) (Nat.le_refl _) (.int .u8 ((adn v).toNat:Int))
   have hk1:(iy:Int)≤65:=by omega
   clear HX HC hdrop hiy
   go_upto_region 25 with fail
   rw[a5l v hm]
   generalize wr.setCell ⟨w.heap.size,iy,none⟩ (.int .u8 ((adn v).toNat:Int))=W2 at hbk2 hcv hb2⊢
   go_wp2_with fail
   refine⟨rfl,_,amp rfl rfl,?_,hb2⟩
   rw[HX2.out];rfl
theorem avt (u:Nat)(hu:u<16^8)(w:World)(ht:w.cell? ⟨8,15,none⟩=some (.int .u8 4)):
  Calls Tryz.prog 181 #[.int .i64 (u:Int),.int .i64 16] w fun e w'=>e=.returned (.string (bsz (aca u)))∧Below w.heap.size w w':=by
 have h1:Calls Tryz.prog 216 #[.int .i64 (u:Int),.int .i64 16] w fun e w'=>e=.returned (.string (bsz (aca u)))∧Below w.heap.size w w':=by
  have h0: ¬(u:Int)<0:=by omega
  have h0':decide ((u:Int)<0)=false:=by simp
  go_enter Tryz.func216,Tryz.ntmps216
  go_wp2_with fail
  refine(a82 u hu w ht).mono ?_
  rintro e w1 ⟨rfl,hb⟩
  go_wp2
  go_ret
  exact⟨rfl,hb⟩
 go_enter Tryz.func181,Tryz.ntmps181
 go_wp2_with fail
 refine h1.mono ?_
 rintro e w1 ⟨rfl,hb⟩
 go_wp2
 go_ret
 exact⟨rfl,hb⟩
end Go.Proofs.YtfhpgmlfgjfknaaGreatDoor
namespace Go.Vf
theorem aws {u:Nat}(hu:u≤1114111):ptR (aae u)=some (u:Int):=by
 have hl6:(aa1 u).length≤6:=acs u 6 (by omega) (by omega)
 have hp:=ak4 u
 have hlt:=adz u _ (Nat.le_refl _)
 have hlen:(aae u).length=(4-(aa1 u).length)+(aa1 u).length:=by rw[aay,acn]
 unfold ptR at5
 rw[if_pos,aay,ahj]
 ·have hmod:u % 16^((4-(aa1 u).length)+(aa1 u).length)=u:=Nat.mod_eq_of_lt (Nat.lt_of_lt_of_le hlt (Nat.pow_le_pow_right (by omega) (by omega)))
  rw[hmod,Nat.zero_mul,Nat.zero_add]
  try rfl
 ·by_cases h4:(aa1 u).length≤4
  ·exact .inl (by omega)
  ·refine .inr ⟨by omega,by omega,?_⟩
   rw[aay]
   obtain⟨k,hk⟩: ∃k,(aa1 u).length=k+1:=⟨(aa1 u).length-1,by omega⟩
   have hge:16^k≤u:=Nat.not_lt.1 fun h=>by have:=acs u k h (by omega);omega
   rw[hk] at hlt
   rw[show (4-(aa1 u).length)+(aa1 u).length=k+1 by omega,agh]
   intro e
   have e2:=am9 _ (Nat.mod_lt _ (by omega)) (Option.some.inj e)
   have h1:1≤u/16^k:=(Nat.le_div_iff_mul_le (Nat.pow_pos (by omega))).2 (by omega)
   have h2:u/16^k<16:=(Nat.div_lt_iff_lt_mul (Nat.pow_pos (by omega))).2 (by rw[Nat.pow_succ] at hlt;omega)
   omega
theorem aww {s:List UInt8}{p:Int}(h:ptR s=some p): ∃u:Nat,p=(u:Int)∧s=aae u:=by
 unfold ptR at5 at h
 split at h
 ·rename_i hs
  cases hn:acw ac8 16 s 0 with
  | none=>rw[hn] at h;cases h
  | some n=>
   rw[hn] at h
   have hpn:(n:Int)=p:=by simpa using h
   obtain⟨r,hr,hnr,hpad⟩:=ao7 s 0 n hn
   have hrn:r=n:=by simpa using hnr.symm
   subst hrn
   refine⟨r,hpn.symm,?_⟩
   have hl:=acs r s.length hr (by omega)
   rw[aay]
   suffices hE:(4-(aa1 r).length)+(aa1 r).length=s.length by rw[hE];exact hpad
   rcases hs with h4 | ⟨h5,h6,hh⟩
   ·omega
   ·obtain⟨k,hk⟩: ∃k,s.length=k+1:=⟨s.length-1,by omega⟩
    have hgt: ¬(aa1 r).length≤k:=fun hle=>by
     have hlt:=adz r k hle
     rw[hpad,hk,agh,Nat.div_eq_of_lt hlt] at hh
     exact hh rfl
    omega
 ·cases h
theorem awc: ∀d,d<16→acz d≠46∧acz d≠91∧acz d≠42∧acz d≠93:=by decide
theorem ah7 {u:Nat}{b:UInt8}(h:b∈aae u):b≠46∧b≠91∧b≠42∧b≠93:=by
 rw[aay] at h
 obtain⟨d,hd,rfl⟩:=ann _ _ b h
 exact awc d hd
theorem ah8 {u:Nat}(hu:u<65536):aae u=abb 4 u:=by
 have hl:=acs u 4 hu (by omega)
 rw[aay,show(4-(aa1 u).length)+(aa1 u).length=4 by omega]
theorem ab6 {u:Nat}(hu:u<65536):(aae u).length=4:=by rw[ah8 hu,acn]
theorem agn {u:Nat}(hu:u<65536):af6 (aae u)=some (u:Int):=by
 unfold af6 at5
 rw[ah8 hu,ahj]
 show(if (abb 4 u).length=4 then _ else _)=_
 rw[if_pos (acn 4 u),Nat.mod_eq_of_lt hu,Nat.zero_mul,Nat.zero_add]
theorem agd {s:List UInt8}{n:Int}(h:af6 s=some n): ∃u:Nat,u<65536∧n=(u:Int)∧s=aae u:=by
 unfold af6 at5 at h
 split at h
 ·cases h
 ·rename_i m hm
  split at h
  ·rename_i h4
   obtain⟨r,hr,hnr,hpad⟩:=ao7 s 0 m hm
   have hrn:r=m:=by simpa using hnr.symm
   subst hrn
   rw[h4] at hr hpad
   refine⟨r,by omega,by simpa using h.symm,?_⟩
   rw[ah8 (by omega)]
   exact hpad
  ·cases h
def elP (e:El):List UInt8:=91::(if e.va then 42 else 46)::(aae e.pr.toNat++46::(aae e.se.toNat++46::(aae e.te.toNat++[93])))
def wtE (e:El):Prop:=wtB e.pr=true∧wtB e.se=true∧wtB e.te=true
theorem acg {n:Int}(h:wtB n=true): ∃u:Nat,n=(u:Int)∧u<65536:=by
 unfold wtB at h
 simp at h
 exact⟨n.toNat,by omega,by omega⟩
theorem ay5 {e:El}(h:aah e=true):wtE e:=by
 unfold aah at h
 simp only[Bool.and_eq_true] at h
 exact⟨h.1.1.1.1.1.1,h.1.1.1.1.1.2,h.1.1.1.1.2⟩
theorem auf {e:El}(h:wtE e):(elP e).length=17:=by
 obtain⟨h1,h2,h3⟩:=h
 obtain⟨a,ea,ha⟩:=acg h1
 obtain⟨b,eb,hb⟩:=acg h2
 obtain⟨c,ec,hc⟩:=acg h3
 unfold elP
 rw[ea,eb,ec]
 simp[ab6 ha,ab6 hb,ab6 hc]
theorem a7c {l:List UInt8}(h:l.length=4): ∃a b c d,l=[a,b,c,d]:=by
 match l,h with
 | [a,b,c,d],_=>exact⟨a,b,c,d,rfl⟩
theorem aue {e:El}(h:wtE e):elR (elP e)=some e:=by
 obtain⟨h1,h2,h3⟩:=h
 obtain⟨a,ea,ha⟩:=acg h1
 obtain⟨b,eb,hb⟩:=acg h2
 obtain⟨c,ec,hc⟩:=acg h3
 have hA: ∀x∈aae a,x≠46:=fun x hx=>(ah7 hx).1
 have hB: ∀x∈aae b,x≠46:=fun x hx=>(ah7 hx).1
 have hC: ∀x∈aae c,x≠46:=fun x hx=>(ah7 hx).1
 have hcut:aa3 46 (aae a++46::(aae b++46::aae c))=[aae a,aae b,aae c]:=by
  rw[ace 46 _ _ hA,ace 46 _ _ hB,ac9 46 _ hC]
 obtain⟨a0,a1,a2,a3,pa⟩:=a7c (ab6 ha)
 obtain⟨b0,b1,b2,b3,pb⟩:=a7c (ab6 hb)
 obtain⟨c0,c1,c2,c3,pc⟩:=a7c (ab6 hc)
 have fa:=agn ha
 have fb:=agn hb
 have fc:=agn hc
 obtain⟨va,pr,se,te⟩:=e
 simp only at ea eb ec
 subst ea eb ec
 unfold elP
 simp only[Int.toNat_natCast]
 simp only[pa,pb,pc] at hcut fa fb fc⊢
 unfold elR
 rw[if_pos (by cases va<;>simp)]
 have:(List.drop 2 (91::(if va=true then 42 else 46)::([a0,a1,a2,a3]++46::([b0,b1,b2,b3]++46::([c0,c1,c2,c3]++[93]))))).take 14=[a0,a1,a2,a3]++46::([b0,b1,b2,b3]++46::[c0,c1,c2,c3]):=rfl
 rw[this,hcut]
 simp only[ae7,fa,fb,fc]
 cases va<;>simp
theorem aug {s:List UInt8}{e:El}(hl:s.length=17)(h:elR s=some e):wtE e∧s=elP e:=by
 unfold elR at h
 split at h
 ·rename_i hc
  obtain⟨h0,h1,h16⟩:=hc
  have hsplit:s=s.take 2++((s.drop 2).take 14++s.drop 16):=by
   rw[show s.drop 16=(s.drop 2).drop 14 by rw[List.drop_drop],List.take_append_drop,List.take_append_drop]
  have ht2:s.take 2=[s[0]'(by omega),s[1]'(by omega)]:=by
   match s,hl with
   | a::b::r,_=>simp
  have hd:s.drop 16=[93]:=by
   rw[List.drop_eq_getElem_cons (by omega),List.drop_of_length_le (by omega)]
   rw[List.getElem?_eq_getElem (by omega)] at h16
   rw[Option.some.inj h16]
  rw[List.getElem?_eq_getElem (by omega)] at h0 h1
  have hj:=ajc 46 ((s.drop 2).take 14)
  unfold ae7 at h
  split at h
  ·rename_i va0 a b c hcut
   rw[hcut] at hj
   simp only at hj
   split at h
   ·cases h
   ·rename_i x hx
    split at h
    ·cases h
    ·rename_i y hy
     split at h
     ·cases h
     ·rename_i z hz
      obtain⟨u,hu,rfl,rfl⟩:=agd hx
      obtain⟨v,hv,rfl,rfl⟩:=agd hy
      obtain⟨t,ht,rfl,rfl⟩:=agd hz
      have he:=Option.some.inj h
      subst he
      refine⟨⟨by simp[wtB];omega,by simp[wtB];omega,by simp[wtB];omega⟩,?_⟩
      have e0:s[0]'(by omega)=91:=Option.some.inj h0
      have hsp:s=([91,s[1]'(by omega)]:List UInt8)++(aae u++List.flatMap (fun x=>46::x) [aae v,aae t]++[93]):=by
       rw[←hj,←hd,←e0,←ht2]
       exact hsplit
      have hq:s[1]? =some (s[1]'(by omega)):=List.getElem?_eq_getElem (by omega)
      rw[hq]
      generalize s[1]'(by omega)=q at h1 hsp
      rw[hsp]
      unfold elP
      rcases h1 with h1 | h1
      ·have e1:q=46:=Option.some.inj h1
       rw[e1];simp
      ·have e1:q=42:=Option.some.inj h1
       rw[e1];simp
  ·cases h
 ·cases h
def afu (l:List El):List UInt8:=l.flatMap elP
theorem aeq: ∀(l:List El),(∀e∈l,wtE e)→(afu l).length=17*l.length:=by
 intro l
 induction l with
 | nil=>intro _;rfl
 | cons e r ih=>
  intro h
  have:=ih (fun x hx=>h x (by simp[hx]))
  simp only[afu,List.flatMap_cons,List.length_append] at this⊢
  rw[this,auf (h e (by simp))]
  simp;omega
theorem a1f: ∀(l:List El) (n:Nat),n=l.length→(∀e∈l,wtE e)→an9 n (afu l)=some l:=by
 intro l
 induction l with
 | nil=>intro n hn _;subst hn;rfl
 | cons e r ih=>
  intro n hn h
  subst hn
  have hel:=auf (h e (by simp))
  show an9 (r.length+1) (elP e++afu r)=_
  rw[an9,List.take_left' hel,List.drop_left' hel,aue (h e (by simp))]
  simp only
  rw[ih _ rfl (fun x hx=>h x (by simp[hx]))]
theorem a1e: ∀(n:Nat) (s:List UInt8) (l:List El),s.length=17*n→an9 n s=some l→s=afu l∧ ∀e∈l,wtE e:=by
 intro n
 induction n with
 | zero=>
  intro s l hs h
  simp[an9] at h;subst h
  refine⟨List.eq_nil_of_length_eq_zero (by omega),by simp⟩
 | succ n ih=>
  intro s l hs h
  unfold an9 at h
  split at h
  ·cases h
  ·rename_i e he
   split at h
   ·cases h
   ·rename_i q hq
    have:=Option.some.inj h
    subst this
    obtain⟨h1,h2⟩:=ih _ _ (by rw[List.length_drop];omega) hq
    obtain⟨h3,h4⟩:=aug (by rw[List.length_take];omega) he
    refine⟨?_,?_⟩
    ·show s=elP e++afu q
     rw[←h1,←h4,List.take_append_drop]
    ·intro x hx
     rcases List.mem_cons.1 hx with rfl | hx
     ·exact h3
     ·exact h2 x hx
theorem arn {l:List El}(h0:1≤l.length)(h1:l.length≤16)(h: ∀e∈l,wtE e):aik (afu l)=some l:=by
 have hl:=aeq l h
 unfold aik
 rw[if_neg]
 ·exact a1f l _ (by omega) h
 ·rintro(e | e | e)
  ·rw[e] at hl;simp at hl;omega
  ·omega
  ·omega
theorem ai8 {s:List UInt8}{l:List El}(h:aik s=some l):s=afu l∧ ∀e∈l,wtE e:=by
 have h2:=(elsR_len h).2.2
 unfold aik at h
 split at h
 ·cases h
 ·exact a1e _ _ _ (by omega) h
theorem axx (c:UInt8): ∀l:List UInt8,(∀x∈l,x≠c)→aih c l=(l,[]):=by
 intro l
 induction l with
 | nil=>intro _;rfl
 | cons b r ih=>
  intro h
  rw[aih,if_neg (h b (by simp)),ih (fun x hx=>h x (by simp[hx]))]
theorem aj1 (c:UInt8): ∀(a r:List UInt8),(∀x∈a,x≠c)→aih c (a++c::r)=(a,r):=by
 intro a
 induction a with
 | nil=>intro r _;simp[aih]
 | cons b t ih=>
  intro r h
  rw[List.cons_append,aih,if_neg (h b (by simp)),ih r (fun x hx=>h x (by simp[hx]))]
theorem ars (c:UInt8): ∀l:List UInt8,(l=(aih c l).1∧(aih c l).2=[])∨l=(aih c l).1++c::(aih c l).2:=by
 intro l
 induction l with
 | nil=>exact .inl ⟨rfl,rfl⟩
 | cons b r ih=>
  by_cases h:b=c
  ·subst h
   rw[aih,if_pos rfl]
   exact .inr rfl
  ·rw[aih,if_neg h]
   rcases ih with ⟨h1,h2⟩ | h1
   ·exact .inl ⟨by simp[←h1],h2⟩
   ·exact .inr (by simp[←h1])
theorem a4s (c:UInt8)(l:List UInt8):(aih c l).1.length≤l.length∧(aih c l).2.length≤l.length:=by
 rcases ars c l with ⟨h1,h2⟩ | h1
 ·exact⟨by rw[←h1];exact Nat.le_refl _,by rw[h2];simp⟩
 ·have:=congrArg List.length h1
  simp at this
  omega
theorem au9: ∀(us:List Nat),(∀q∈us,q≤1114111)→asc (us.map aae)=some (us.map fun q:Nat=>(q:Int)):=by
 intro us
 induction us with
 | nil=>intro _;rfl
 | cons a r ih=>
  intro h
  rw[List.map_cons,asc,aws (h a (by simp))]
  simp only
  rw[ih (fun q hq=>h q (by simp[hq]))]
  try rfl
theorem aqn: ∀(C:List (List UInt8)) (ps:List Int),asc C=some ps→C=(ps.map Int.toNat).map aae∧C.length=ps.length:=by
 intro C
 induction C with
 | nil=>intro ps h;simp[asc] at h;subst h;exact⟨rfl,rfl⟩
 | cons a r ih=>
  intro ps h
  unfold asc at h
  split at h
  ·cases h
  ·rename_i p hp
   split at h
   ·cases h
   ·rename_i q hq
    simp at h;subst h
    obtain⟨u,rfl,hs⟩:=aww hp
    obtain⟨h1,h2⟩:=ih _ hq
    refine⟨?_,by simp[h2]⟩
    rw[hs]
    simp only[List.map_cons,Int.toNat_natCast]
    rw[←h1]
def a2a (p:List Int):List UInt8:=aba (p.map Int.toNat)
theorem ad7 {n:Int}(h:adc n=true): ∃u:Nat,n=(u:Int)∧u≤1114111:=by
 unfold adc at h
 simp at h
 exact⟨n.toNat,by omega,by omega⟩
theorem akr {p:List Int}(h:adp p=true): ∃us:List Nat,p=us.map (fun q:Nat=>(q:Int))∧us≠ []∧us.length≤8∧ ∀q∈us,q≤1114111:=by
 unfold adp at h
 simp only[Bool.and_eq_true,decide_eq_true_eq,List.all_eq_true] at h
 obtain⟨⟨h1,h2⟩,h3⟩:=h
 refine⟨p.map Int.toNat,?_,?_,by simpa using h2,?_⟩
 ·rw[List.map_map]
  conv=>lhs;rw[←List.map_id p]
  apply List.map_congr_left
  intro x hx
  obtain⟨u,rfl,_⟩:=ad7 (h3 x hx)
  simp
 ·intro e
  have:=congrArg List.length e
  simp at this
  subst this
  simp at h1
 ·intro q hq
  obtain⟨x,hx,rfl⟩:=List.mem_map.1 hq
  obtain⟨u,rfl,h⟩:=ad7 (h3 x hx)
  simpa using h
theorem aio (us:List Nat):(us.map (fun q:Nat=>(q:Int))).map Int.toNat=us:=by
 rw[List.map_map]
 conv=>rhs;rw[←List.map_id us]
 apply List.map_congr_left
 intro x _
 simp
theorem ayz {p:List Int}(h:adp p=true):aij (a2a p)=some p:=by
 obtain⟨us,rfl,hne,_,hq⟩:=akr h
 unfold aij a2a
 rw[aio,arr us hne,au9 us hq]
 simp only
 rw[if_pos h]
theorem ay2 {s:List UInt8}{p:List Int}(h:aij s=some p):s=a2a p:=by
 have hb:=asu h
 obtain⟨us,rfl,hne,_,hq⟩:=akr hb
 unfold aij at h
 split at h
 ·cases h
 ·rename_i l hl
  split at h
  ·have:=Option.some.inj h
   subst this
   obtain⟨h1,_⟩:=aqn _ _ hl
   rw[aio] at h1
   unfold a2a
   rw[aio]
   have hj:=ajc 32 s
   rw[h1] at hj
   cases us with
   | nil=>exact absurd rfl hne
   | cons a r=>
    rw[af2]
    simp only[List.map_cons] at hj
    rw[hj,List.flatMap_map]
  ·cases h
theorem aoy {p:List Int}: ∀b∈a2a p,b≠10∧b≠59:=als _
theorem a6r {e:El}: ∀b∈elP e,b≠10:=by
 intro b hb
 unfold elP at hb
 simp only[List.mem_cons,List.mem_append,List.not_mem_nil,or_false] at hb
 rcases hb with rfl | rfl | hb | rfl | hb | rfl | hb | rfl
 ·decide
 ·split<;>decide
 ·exact(aa8 hb).1
 ·decide
 ·exact(aa8 hb).1
 ·decide
 ·exact(aa8 hb).1
 ·decide
def ahb (x:Ent):List UInt8:=a2a x.1++59::afu x.2
theorem a08 {x:Ent}(h:EntOk x):aee (ahb x)=some x:=by
 unfold aee ahb
 rw[aj1 59 _ _ (fun b hb=>(aoy b hb).2)]
 simp only
 rw[ayz h.row]
 simp only
 rw[arn h.n0 h.n1 (fun e he=>ay5 (List.all_eq_true.1 h.ok e he))]
theorem arl {s:List UInt8}{x:Ent}(h:aee s=some x):s=ahb x:=by
 unfold aee at h
 split at h
 ·cases h
 ·rename_i p hp
  split at h
  ·cases h
  ·rename_i l hl
   have:=Option.some.inj h
   subst this
   unfold ahb
   have h1:=ay2 hp
   obtain⟨h2,_⟩:=ai8 hl
   have h3:=(elsR_len hl).2.2
   have h4:=(elsR_len hl).1
   rcases ars 59 s with ⟨_,e⟩ | e
   ·rw[e] at h3;simp at h3;omega
   ·simp only
    rw[←h1,←h2]
    exact e
theorem auc {x:Ent}(h:EntOk x):(∀b∈ahb x,b≠10)∧aav (ahb x)=false:=by
 obtain⟨us,e,hne,_,hq⟩:=akr h.row
 refine⟨?_,?_⟩
 ·intro b hb
  unfold ahb at hb
  rcases List.mem_append.1 hb with hb | hb
  ·exact(aoy b hb).1
  ·rcases List.mem_cons.1 hb with rfl | hb
   ·decide
   ·unfold afu at hb
    obtain⟨y,_,hy⟩:=List.mem_flatMap.1 hb
    exact a6r b hy
 ·unfold ahb a2a
  rw[e,aio]
  cases us with
  | nil=>exact absurd rfl hne
  | cons a r=>
   rw[af2]
   cases hs:aae a with
   | nil=>exact absurd hs (ai1 a)
   | cons b t=>
    have:b≠35:=(aa8 (u:=a) (b:=b) (by rw[hs];simp)).2.2.2
    simp[aav,this]
end Go.Vf
namespace Go.Proofs.YtfhpgmlfgjfknaaGreatDoor
open Go.RowKit Go.Vf Go.Maps
theorem adj {w w':World}{b1:Nat}{e1:TypeId}{s1 k1:Nat}{v1:Value}{x1:List Value}(h1:w.ownsRow b1 e1 s1 v1 k1 x1)(hk: ∀g,v1.ownBlock=some g→w'.heap[g]? =w.heap[g]?):w'.ownsRow b1 e1 s1 v1 k1 x1:=by
 refine⟨h1.1,h1.2.imp id fun⟨g,cap,cur,q1,q2,q3,q4⟩=>⟨g,cap,cur,q1,q2,?_,q4⟩⟩
 exact(hk g (by rw[q1];rfl)).trans q3
def Apt (u v:Value):Prop:= ∀g,u.ownBlock=some g→v.ownBlock≠some g
theorem Apt.symm {u v:Value}(h:Apt u v):Apt v u:=fun g hv hu=>h g hu hv
theorem afb {w:World}{b1 b2:Nat}{e1 e2:TypeId}{s1 s2 k1 k2:Nat}{v1 v2:Value}{x1 x2:List Value}(h1:w.ownsRow b1 e1 s1 v1 k1 x1)(h2:w.ownsRow b2 e2 s2 v2 k2 x2)(ht:e1≠e2):Apt v1 v2:=fun g hg1 hg2=>by
 obtain⟨_,c1,f1,q1⟩:=aan h1 hg1
 obtain⟨_,c2,f2,q2⟩:=aan h2 hg2
 rw[q1] at q2
 simp only[Option.some.injEq,Obj.cells.injEq] at q2
 exact ht q2.2.1
theorem anf {w:World}{base:Nat}{e:TypeId}{size k:Nat}{v:Value}{xs:List Value}(h:w.ownsRow base e size v k xs){g:Nat}(hg:v.ownBlock=some g):g<w.heap.size:=by
 obtain⟨_,c,f,q⟩:=aan h hg
 exact(Array.getElem?_eq_some_iff.1 q).1
theorem a1z {w:World}{b1 b2:Nat}{e1 e2:TypeId}{s1 s2 k1 k2:Nat}{v1 v2:Value}{x1 x2:List Value}{w2:World}(h1:w.ownsRow b1 e1 s1 v1 k1 x1)(h2:w2.ownsRow b2 e2 s2 v2 k2 x2)(hb:w.heap.size≤b2):Apt v1 v2:=fun g hg1 hg2=>by
 have:=anf h1 hg1
 have:=(aan h2 hg2).1
 omega
theorem acv {w w':World}{b:Nat}{e:TypeId}{s k:Nat}{v u:Value}{xs:List Value}(h:w.ownsRow b e s v k xs)(hg:w.grownBy w' u.ownBlock)(ha:Apt u v):w'.ownsRow b e s v k xs:=
 adj h (fun g hv=>hg.block g (anf h hv) (fun e=>ha g e.symm hv))
theorem ahd {w w':World}{b:Nat}{e:TypeId}{s k B:Nat}{t:TypeId}{u:Value}{xs:List Value}{cs:Array Value}(hb:Blk w B t cs)(hu:w.ownsRow b e s u k xs)(ht:e≠t)(hg:w.grownBy w' u.ownBlock):Blk w' B t cs:=by
 refine(hg.block B hb.lt (fun eq=> ?_)).trans hb
 obtain⟨_,c,f,q⟩:=aan hu eq.symm
 have:=q.symm.trans hb
 simp only[Option.some.injEq,Obj.cells.injEq] at this
 exact ht this.2.1
theorem alh {w:World}{b1:Nat}{e1:TypeId}{s1 k1:Nat}{v1:Value}{x1:List Value}(h1:w.ownsRow b1 e1 s1 v1 k1 x1): ∀g,v1.ownBlock=some g→g<w.heap.size:=fun g hg=>by
 obtain⟨_,cs,f,q⟩:=aan h1 hg
 exact(Array.getElem?_eq_some_iff.1 q).1
end Go.Proofs.YtfhpgmlfgjfknaaGreatDoor
namespace Go.Proofs.YtfhpgmlfgjfknaaGreatDoor
open Go.RowKit Go.Vf
theorem aic (n:Int)(w:World):Calls Tryz.prog 124 #[.int .i64 n] w fun e w'=>e=.returned (.bool (adc n))∧w=w':=by
 by_cases h1:0≤n
 ·by_cases h2:n≤1114111
  ·by_cases h3:n<55296
   ·go_enter Tryz.func124,Tryz.ntmps124
    go_wp2
    go_ret
    exact⟨by simp[adc,h1,h2,h3],rfl⟩
   ·by_cases h4:57343<n
    ·go_enter Tryz.func124,Tryz.ntmps124
     go_wp2
     go_ret
     exact⟨by simp[adc,h1,h2,h4],rfl⟩
    ·go_enter Tryz.func124,Tryz.ntmps124
     go_wp2
     go_ret
     exact⟨by simp[adc];omega,rfl⟩
  ·go_enter Tryz.func124,Tryz.ntmps124
   go_wp2
   go_ret
   exact⟨by simp[adc];omega,rfl⟩
 ·go_enter Tryz.func124,Tryz.ntmps124
  go_wp2
  go_ret
  exact⟨by simp[adc];omega,rfl⟩
theorem ac7 (n:Int)(w:World):Calls Tryz.prog 160 #[.int .i64 n] w fun e w'=>e=.returned (.bool (wtB n))∧w=w':=by
 by_cases h1:0≤n
 ·by_cases h2:n≤65535
  ·go_enter Tryz.func160,Tryz.ntmps160
   go_wp2
   go_ret
   exact⟨by simp[wtB,h1,h2],rfl⟩
  ·go_enter Tryz.func160,Tryz.ntmps160
   go_wp2
   go_ret
   exact⟨by simp[wtB];omega,rfl⟩
 ·go_enter Tryz.func160,Tryz.ntmps160
  go_wp2
  go_ret
  exact⟨by simp[wtB];omega,rfl⟩
def aii (n:Int):Int:=if (19968≤n∧n≤40959)∨(63744≤n∧n≤64255) then 64320 else if (13312≤n∧n≤19903)∨(131072≤n∧n≤262143) then 64384 else 64448
set_option maxHeartbeats 1000000 in
theorem a40 (n:Int)(w:World):Calls Tryz.prog 150 #[.int .i64 n] w fun e w'=>e=.returned (.int .i64 (aii n))∧w=w':=by
 by_cases c1:19968≤n∧n≤40959
 ·obtain⟨h1,h2⟩:=c1
  go_enter Tryz.func150,Tryz.ntmps150
  go_wp2
  go_ret
  exact⟨by simp[aii,h1,h2],rfl⟩
 ·by_cases c2:63744≤n∧n≤64255
  ·obtain⟨h1,h2⟩:=c2
   have h3: ¬n≤40959:=by omega
   have h4:19968≤n:=by omega
   go_enter Tryz.func150,Tryz.ntmps150
   go_wp2
   go_ret
   exact⟨by simp[aii,h1,h2],rfl⟩
  ·by_cases c3:13312≤n∧n≤19903
   ·obtain⟨h1,h2⟩:=c3
    have h3: ¬19968≤n:=by omega
    have h4: ¬63744≤n:=by omega
    go_enter Tryz.func150,Tryz.ntmps150
    go_wp2
    go_ret
    exact⟨by simp[aii,h1,h2];omega,rfl⟩
   ·by_cases c4:131072≤n∧n≤262143
    ·obtain⟨h1,h2⟩:=c4
     have h3:19968≤n:=by omega
     have h4:63744≤n:=by omega
     have h5: ¬n≤40959:=by omega
     have h6: ¬n≤64255:=by omega
     have h7:13312≤n:=by omega
     have h8: ¬n≤19903:=by omega
     go_enter Tryz.func150,Tryz.ntmps150
     go_wp2
     go_ret
     exact⟨by simp[aii,h1,h2,h5,h6],rfl⟩
    ·have e:aii n=64448:=by unfold aii;rw[if_neg (by omega),if_neg (by omega)]
     have E:Hid (aii n=64448):=e
     clear e
     by_cases h1:19968≤n<;>by_cases h2:63744≤n<;>by_cases h3:13312≤n<;>by_cases h4:131072≤n<;>try (exfalso;omega)
     all_goals
      first
      | have h5: ¬n≤40959:=by omega
      | skip
      first
      | have h6: ¬n≤64255:=by omega
      | skip
      first
      | have h7: ¬n≤19903:=by omega
      | skip
      first
      | have h8: ¬n≤262143:=by omega
      | skip
      clear c1 c2 c3 c4
      go_enter Tryz.func150,Tryz.ntmps150
      go_wp2
      go_ret
      exact⟨by rw[E.out];rfl,rfl⟩
def a6s (c:UInt8):Int:=match ac8 c with
 | some d=>(d:Int)
 | none=> -1
theorem a0o:((List.range 256).all fun n=>Lib.indexByte [48,49,50,51,52,53,54,55,56,57,65,66,67,68,69,70] (UInt8.ofNat n)==a6s (UInt8.ofNat n))=true:=by kernel_rfl
theorem a0n (c:UInt8):Lib.indexByte [48,49,50,51,52,53,54,55,56,57,65,66,67,68,69,70] c=a6s c:=by
 have:=List.all_eq_true.1 a0o c.toNat (List.mem_range.2 c.toNat_lt)
 rw[show UInt8.ofNat c.toNat=c by simp] at this
 exact beq_iff_eq.1 this
theorem a4o (c:UInt8)(w:World):Calls Tryz.prog 228 #[.string ⟨#[48,49,50,51,52,53,54,55,56,57,65,66,67,68,69,70]⟩,.int .u8 (c.toNat:Int)] w fun e w'=>e=.returned (.int .i64 (a6s c))∧w=w':=by
 refine(Tryz.strings_IndexByte ⟨#[48,49,50,51,52,53,54,55,56,57,65,66,67,68,69,70]⟩ (c.toNat:Int) w).mono ?_
 rintro e w' ⟨rfl,rfl⟩
 refine⟨?_,rfl⟩
 rw[show ((c.toNat:Int).toNat.toUInt8)=c by simp,show(⟨#[48,49,50,51,52,53,54,55,56,57,65,66,67,68,69,70]⟩:ByteArray).data.toList=[48,49,50,51,52,53,54,55,56,57,65,66,67,68,69,70] from rfl,a0n]
def a0s:Option Nat→Value
 | some n=>.tuple #[.int .i64 (n:Int),.bool true]
 | none=>.tuple #[.int .i64 0,.bool false]
set_option maxHeartbeats 1000000 in
theorem ag4 (s:ByteArray)(w:World)(hs:s.size≤14):
  Calls Tryz.prog 207 #[.string s] w fun e w'=>e=.returned (a0s (at5 s.data.toList))∧w=w':=by
 have hsl:s.data.toList.length=s.size:=(Lib.size_eq s).symm
 generalize hR:at5 s.data.toList=R
 have HR:Hid (at5 s.data.toList=R):=hR
 clear hR
 go_enter Tryz.func207,Tryz.ntmps207
 go_wp2
 go_loopw [9,4] (fun i n wr=> ∃(k m:Nat),i=.int .i64 (k:Int)∧n=.int .i64 (m:Int)∧k≤s.size∧m<16^k∧Hid (acw ac8 16 (s.data.toList.drop k) m=R)∧wr=w) (fun i _ _=>s.size-(intOf i).toNat)
 case atStart=>exact⟨0,0,rfl,rfl,by omega,by simp,HR,rfl⟩
 case round=>
  obtain⟨k,m,rfl,rfl,hk,hm,HX,rfl⟩:=hrel
  have hp:16^k≤16^14:=Nat.pow_le_pow_right (by omega) (by omega)
  have hm14:m<16^14:=by omega
  by_cases hlt:k<s.size
  ·have hd:=aif s k hlt
   have hc:=a4o s[k] wr
   cases hv:ac8 s[k] with
   | none=>
    have hdv:a6s s[k]= -1:=by unfold a6s;rw[hv]
    rw[hdv] at hc
    have hRn:Hid (R=none):=by
     show _=_
     rw[←HX.out,hd,acw,hv]
    clear hd hdv HX
    go_wp2_with fail
    refine hc.mono ?_
    rintro e w1 ⟨rfl,rfl⟩
    go_wp2
    go_ret2
    exact⟨by rw[hRn.out];rfl,rfl⟩
   | some d=>
    have hd16:=at4 hv
    have hdv:a6s s[k]=(d:Int):=by unfold a6s;rw[hv]
    rw[hdv] at hc
    have HX2:Hid (acw ac8 16 (s.data.toList.drop (k+1)) (m*16+d)=R):=by
     show _=_
     rw[←HX.out,hd,acw,hv]
    clear hd hdv HX
    go_wp2_with fail
    refine hc.mono ?_
    rintro e w1 ⟨rfl,rfl⟩
    go_wp2
    go_roundw
    case rel=>exact⟨k+1,m*16+d,by simp,by simp,by omega,by rw[Nat.pow_succ];omega,HX2,trivial⟩
    case measure=>simp only[intOf];omega
  ·have hRn:Hid (R=some m):=by
    show _=_
    rw[←HX.out,agq s k (by omega)];rfl
   clear HX
   go_wp2
   go_ret2
   exact⟨by rw[hRn.out];rfl,rfl⟩
def a74:Option Int→Value
 | some n=>.tuple #[.int .i64 n,.bool true]
 | none=>.tuple #[.int .i64 0,.bool false]
theorem a78 (o:Option Nat):a0s o=a74 (o.map fun n=>(n:Int)):=by cases o<;>rfl
theorem a1u {a b:UInt8}(h:a=b):((a.toNat:Int)==(b.toNat:Int))=true:=by subst h;simp
theorem a1t {a b:UInt8}(h:a≠b):((a.toNat:Int)==(b.toNat:Int))=false:=by
 rw[beq_eq_false_iff_ne]
 intro e
 exact h (UInt8.toNat_inj.1 (by omega))
set_option maxHeartbeats 1000000 in
theorem ams (s:ByteArray)(w:World)(hs:s.size≤17179869184):
  Calls Tryz.prog 170 #[.string s] w fun e w'=>e=.returned (a74 (ptR s.data.toList))∧w=w':=by
 have hsl:s.data.toList.length=s.size:=(Lib.size_eq s).symm
 by_cases hlen:s.size=4∨(4<s.size∧s.size≤6∧s.data.toList.head?≠some 48)
 ·have e1:a74 (ptR s.data.toList)=a0s (at5 s.data.toList):=by
   rw[a78];unfold ptR;rw[hsl,if_pos hlen]
  rw[e1]
  clear e1
  have hr:=ag4 s w (by omega)
  generalize at5 s.data.toList=R at hr⊢
  rcases hlen with h4 | ⟨h5,h6,h7⟩
  ·have a1: ¬s.size<4:=by omega
   have a2: ¬6<s.size:=by omega
   have a3: ¬4<s.size:=by omega
   clear h4
   go_enter Tryz.func170,Tryz.ntmps170
   go_wp2_with fail
   refine hr.mono ?_
   rintro e w1 ⟨rfl,rfl⟩
   cases R with
   | none=>simp only[a0s];go_wp2;go_ret2;exact⟨rfl,rfl⟩
   | some n=>simp only[a0s];go_wp2;go_ret2;exact⟨rfl,rfl⟩
  ·have a1: ¬s.size<4:=by omega
   have a2: ¬6<s.size:=by omega
   have hz:s[0]'(by omega)≠48:=fun e=>h7 (by rw[ae6 s (by omega),e])
   have hb:(((s[0]'(by omega)).toNat:Int)==48)=false:=a1t (b:=48) hz
   clear h7 hz
   go_enter Tryz.func170,Tryz.ntmps170
   go_wp2_with fail
   refine hr.mono ?_
   rintro e w1 ⟨rfl,rfl⟩
   cases R with
   | none=>simp only[a0s];go_wp2;go_ret2;exact⟨rfl,rfl⟩
   | some n=>simp only[a0s];go_wp2;go_ret2;exact⟨rfl,rfl⟩
 ·have e1:ptR s.data.toList=none:=by unfold ptR;rw[hsl,if_neg hlen]
  rw[e1]
  clear e1
  by_cases a1:s.size<4
  ·clear hlen
   go_enter Tryz.func170,Tryz.ntmps170
   go_wp2
   go_ret2
   exact⟨rfl,rfl⟩
  ·by_cases a2:6<s.size
   ·clear hlen
    go_enter Tryz.func170,Tryz.ntmps170
    go_wp2
    go_ret2
    exact⟨rfl,rfl⟩
   ·have a3:4<s.size:=by omega
    have hz:s[0]'(by omega)=48:=by
     have h0:=ae6 s (by omega)
     rcases Decidable.em (s[0]'(by omega)=48) with h | h
     ·exact h
     ·exact absurd (.inr ⟨a3,by omega,fun e=>h (Option.some.inj (h0.symm.trans e))⟩) hlen
    have hb:(((s[0]'(by omega)).toNat:Int)==48)=true:=a1u (b:=48) hz
    clear hz hlen
    go_enter Tryz.func170,Tryz.ntmps170
    go_wp2
    go_ret2
    exact⟨rfl,rfl⟩
end Go.Proofs.YtfhpgmlfgjfknaaGreatDoor
namespace Go.Proofs.YtfhpgmlfgjfknaaGreatDoor
open Go.RowKit Go.Vf Go.Maps
def elV (e:El):List Value:=[.bool e.va,.int .i64 e.pr,.int .i64 e.se,.int .i64 e.te]
abbrev elA (e:El):Value:=.agg #[.bool e.va,.int .i64 e.pr,.int .i64 e.se,.int .i64 e.te]
def aji (l:List El):List Value:=l.flatMap elV
theorem agp (l:List El):(aji l).length=l.length*4:=by
 induction l with
 | nil=>rfl
 | cons e r ih=>simp only[aji,List.flatMap_cons,List.length_append] at ih⊢;rw[ih];simp[elV];omega
theorem al7 (a b:List El):aji (a++b)=aji a++aji b:=by simp[aji]
def Els (n₀:Nat)(W:World)(v:Value)(l:List El):Prop:=
 (∃a cap,v=.slice a 0 cap∧l=[])∨ ∃b off cap,v=.slice (some ⟨b,off,none⟩) l.length cap∧b<n₀∧ ∀j (hj:j<l.length),
  W.cell? ⟨b,off+j*4,none⟩=some (.bool l[j].va)∧W.cell? ⟨b,off+j*4+1,none⟩=some (.int .i64 l[j].pr)∧W.cell? ⟨b,off+j*4+2,none⟩=some (.int .i64 l[j].se)∧W.cell? ⟨b,off+j*4+3,none⟩=some (.int .i64 l[j].te)
theorem Els.val {n₀:Nat}{W:World}{v:Value}{l:List El}(h:Els n₀ W v l): ∃a cap,v=.slice a l.length cap:=by
 rcases h with ⟨a,cap,rfl,rfl⟩ | ⟨b,off,cap,rfl,_⟩
 ·exact⟨a,cap,rfl⟩
 ·exact⟨_,cap,rfl⟩
theorem Els.below {n₀ n:Nat}{A B:World}{v:Value}{l:List El}(h:Els n₀ A v l)(hb:Below n A B)(hn:n₀≤n):Els n₀ B v l:=by
 rcases h with h | ⟨b,off,cap,e,hlt,hc⟩
 ·exact .inl h
 ·refine .inr ⟨b,off,cap,e,hlt,fun j hj=> ?_⟩
  obtain⟨h0,h1,h2,h3⟩:=hc j hj
  have q: ∀k,B.cell? ⟨b,k,none⟩=A.cell? ⟨b,k,none⟩:=fun k=>hb.cell (p:=⟨b,k,none⟩) (show b<n by omega)
  exact⟨(q _).trans h0,(q _).trans h1,(q _).trans h2,(q _).trans h3⟩
theorem Els.mono {n₀ n:Nat}{A:World}{v:Value}{l:List El}(hn:n₀≤n)(h:Els n₀ A v l):Els n A v l:=by
 rcases h with h | ⟨b,off,cap,e,hlt,hc⟩
 ·exact .inl h
 ·exact .inr ⟨b,off,cap,e,Nat.lt_of_lt_of_le hlt hn,hc⟩
def EOwn (w:World)(base:Nat)(v:Value)(l:List El):Prop:=w.ownsRow base 131 4 v l.length (aji l)
theorem EOwn.nil (w:World)(base:Nat):EOwn w base (.slice none 0 0) []:=World.ownsRow_nil _ _ _ _
theorem a1b: ∀(l:List El) (j:Nat) (hj:j<l.length),(aji l)[j*4]? =some (.bool l[j].va)∧(aji l)[j*4+1]? =some (.int .i64 l[j].pr)∧(aji l)[j*4+2]? =some (.int .i64 l[j].se)∧(aji l)[j*4+3]? =some (.int .i64 l[j].te):=by
 intro l
 induction l with
 | nil=>intro j hj;simp at hj
 | cons e r ih=>
  intro j hj
  have hc:aji (e::r)=[Value.bool e.va,.int .i64 e.pr,.int .i64 e.se,.int .i64 e.te]++aji r:=rfl
  cases j with
  | zero=>rw[hc];simp
  | succ j=>
   have hj':j<r.length:=by simpa using hj
   obtain⟨h0,h1,h2,h3⟩:=ih j hj'
   have q: ∀k,(aji (e::r))[4+k]? =(aji r)[k]?:=fun k=>by
    rw[hc,List.getElem?_append_right (by simp)]
    congr 1
    simp
   simp only[List.getElem_cons_succ]
   refine⟨?_,?_,?_,?_⟩
   ·rw[←h0,←q];congr 1;omega
   ·rw[←h1,←q];congr 1;omega
   ·rw[←h2,←q];congr 1;omega
   ·rw[←h3,←q];congr 1;omega
theorem EOwn.form {w:World}{base:Nat}{v:Value}{l:List El}(h:EOwn w base v l):(v=.slice none 0 0∧l=[])∨ ∃g cap,v=.slice (some ⟨g,0,none⟩) l.length cap∧base≤g∧g<w.heap.size∧(∀j x,(aji l)[j]? =some x→w.cell? ⟨g,j,none⟩=some x)∧(∀j,w.frozen? ⟨g,j,none⟩=false):=by
 obtain⟨h1,h2⟩:=h
 rcases h2 with ⟨rfl,hn⟩ | ⟨g,cap,cur,rfl,hb,hh,hc1,hc2,hc3,hc4⟩
 ·exact .inl ⟨rfl,List.eq_nil_of_length_eq_zero hn⟩
 ·refine .inr ⟨g,cap,rfl,hb,(Array.getElem?_eq_some_iff.1 hh).1,fun j x hx=> ?_,fun j=> ?_⟩
  ·have hj:j<(aji l).length:=(List.getElem?_eq_some_iff.1 hx).1
   rw[agp] at hj
   rw[←hc4,List.getElem?_take_of_lt (by omega)] at hx
   simp only[World.cell?,hh]
   simpa using hx
  ·simp[World.frozen?,hh]
theorem EOwn.els {w:World}{base:Nat}{v:Value}{l:List El}(h:EOwn w base v l):Els w.heap.size w v l:=by
 rcases h.form with h | ⟨g,cap,rfl,hb,hlt,hc,_⟩
 ·exact .inl ⟨none,0,h⟩
 ·refine .inr ⟨g,0,cap,rfl,hlt,fun j hj=> ?_⟩
  obtain⟨h0,h1,h2,h3⟩:=a1b l j hj
  rw[Nat.zero_add]
  exact⟨hc _ _ h0,hc _ _ h1,hc _ _ h2,hc _ _ h3⟩
theorem Els.at {n₀:Nat}{w:World}{a:Option Addr}{k cap:Nat}{l:List El}(h:Els n₀ w (.slice a k cap) l){j:Nat}(hj:j<l.length): ∃b off,a=some ⟨b,off,none⟩∧
  w.cell? ⟨b,off+j*4,none⟩=some (.bool l[j].va)∧w.cell? ⟨b,off+j*4+1,none⟩=some (.int .i64 l[j].pr)∧w.cell? ⟨b,off+j*4+2,none⟩=some (.int .i64 l[j].se)∧w.cell? ⟨b,off+j*4+3,none⟩=some (.int .i64 l[j].te):=by
 rcases h with ⟨a',cap',e,rfl⟩ | ⟨b,off,cap',e,hlt,hc⟩
 ·simp at hj
 ·cases e
  exact⟨b,off,rfl,hc j hj⟩
set_option maxHeartbeats 1000000 in
theorem aty (e:El)(w:World):Calls Tryz.prog 125 #[elA e] w fun r w'=>r=.returned (.bool (aah e))∧Below w.heap.size w w':=by
 obtain⟨va,pr,se,te⟩:=e
 have hb0:=(Below.refl w.heap.size w).alloc (Nat.le_refl _) (.cells #[.bool va,.int .i64 pr,.int .i64 se,.int .i64 te] 131)
 cases h1:wtB pr with
 | false=>
  have hR:aah ⟨va,pr,se,te⟩=false:=by simp[aah,h1]
  rw[hR]
  have c1:=fun w=>ac7 pr w
  rw[h1] at c1
  clear hR h1
  go_enter Tryz.func125,Tryz.ntmps125
  go_wp2_with fail
  refine(c1 _).mono ?_
  rintro _ w1 ⟨rfl,rfl⟩
  go_wp2
  go_ret
  exact⟨rfl,hb0⟩
 | true=>
  have c1:=fun w=>ac7 pr w
  rw[h1] at c1
  cases h2:wtB se with
  | false=>
   have hR:aah ⟨va,pr,se,te⟩=false:=by simp[aah,h2]
   rw[hR]
   have c2:=fun w=>ac7 se w
   rw[h2] at c2
   clear hR h1 h2
   go_enter Tryz.func125,Tryz.ntmps125
   go_wp2_with fail
   refine(c1 _).mono ?_
   rintro _ w1 ⟨rfl,rfl⟩
   go_wp2_with fail
   refine(c2 _).mono ?_
   rintro _ w1 ⟨rfl,rfl⟩
   go_wp2
   go_ret
   exact⟨rfl,hb0⟩
  | true=>
   have c2:=fun w=>ac7 se w
   rw[h2] at c2
   cases h3:wtB te with
   | false=>
    have hR:aah ⟨va,pr,se,te⟩=false:=by simp[aah,h3]
    rw[hR]
    have c3:=fun w=>ac7 te w
    rw[h3] at c3
    clear hR h1 h2 h3
    go_enter Tryz.func125,Tryz.ntmps125
    go_wp2_with fail
    refine(c1 _).mono ?_
    rintro _ w1 ⟨rfl,rfl⟩
    go_wp2_with fail
    refine(c2 _).mono ?_
    rintro _ w1 ⟨rfl,rfl⟩
    go_wp2_with fail
    refine(c3 _).mono ?_
    rintro _ w1 ⟨rfl,rfl⟩
    go_wp2
    go_ret
    exact⟨rfl,hb0⟩
   | true=>
    have c3:=fun w=>ac7 te w
    rw[h3] at c3
    have hR:aah ⟨va,pr,se,te⟩=(decide (pr≤64319)&& !(decide (pr≠0)&&decide (se=0))&& !(decide (se≠0)&&decide (te=0))&&(decide (pr≠0)|| !va)):=by simp only[aah,h1,h2,h3,Bool.true_and]
    generalize hQ:aah ⟨va,pr,se,te⟩=Q at hR⊢
    have HQ:Hid (Q=(decide (pr≤64319)&& !(decide (pr≠0)&&decide (se=0))&& !(decide (se≠0)&&decide (te=0))&&(decide (pr≠0)|| !va))):=hR
    clear hR hQ h1 h2 h3
    go_enter Tryz.func125,Tryz.ntmps125
    go_wp2_with fail
    refine(c1 _).mono ?_
    rintro _ w1 ⟨rfl,rfl⟩
    go_wp2_with fail
    refine(c2 _).mono ?_
    rintro _ w1 ⟨rfl,rfl⟩
    go_wp2_with fail
    refine(c3 _).mono ?_
    rintro _ w1 ⟨rfl,rfl⟩
    go_wp2
    all_goals go_ret
    all_goals refine⟨?_,(Below.refl _ _).alloc (Nat.le_refl _) _⟩
    all_goals rw[HQ.out]
    all_goals clear HQ c1 c2 c3 hb0
    all_goals by_cases ht:te=0
    all_goals first
     | (simp[*];done)
     | (simp;omega)
     | (cases va<;>simp[*];done)
     | (exfalso;simp_all;done)
end Go.Proofs.YtfhpgmlfgjfknaaGreatDoor
