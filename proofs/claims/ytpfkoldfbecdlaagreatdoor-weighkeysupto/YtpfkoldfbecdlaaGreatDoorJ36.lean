/- Contracts and lemmas (nothing is claimed here). -/
import Derived.Test.YtpfkoldfbecdlaaGreatDoorJ9
import Derived.Test.YtpfkoldfbecdlaaGreatDoorJ31
import Derived.Test.YtpfkoldfbecdlaaGreatDoorJ22
import Derived.Test.YtpfkoldfbecdlaaGreatDoorLoadsK
import Derived.Test.YtpfkoldfbecdlaaGreatDoorJ11
import Derived.Test.YtpfkoldfbecdlaaGreatDoorJ35
import Derived.BigRegion
import Derived.Test.YtpfkoldfbecdlaaGreatDoorWgH
import Derived.Test.YtpfkoldfbecdlaaGreatDoorJ33
namespace Go.Vf
theorem ae3 {n:Nat}{c:UInt8}(h:n=c.toNat):UInt8.ofNat n=c:=by subst h;simp
theorem whole_enc {l:List UInt8}{k:Nat}(hne:l≠ [])(hk:adm (l[0]?.getD 0).toNat=some k)(hw:abg k l=true): ∃p,ag9 p∧l=enc p++l.drop (enc p).length:=by
 obtain⟨hk9,h1,h2⟩:=rowB_lt hk
 cases l with
 | nil=>exact absurd rfl hne
 | cons a l=>
  simp only[List.getElem?_cons_zero,Option.getD_some] at h1 h2
  have ha:=a.toNat_lt
  simp only[abg,Bool.and_eq_true,decide_eq_true_eq,Bool.or_eq_true] at hw
  obtain⟨w1,w2,w3⟩:=hw
  have hcase:k=0∨k=1∨(k=2∨k=3∨k=4∨k=5)∨(k=6∨k=7∨k=8):=by omega
  rcases hcase with rfl | rfl | hk3 | hk4
  ·simp only[aag] at h1 h2
   refine⟨a.toNat,by unfold ag9;omega,?_⟩
   have e:enc a.toNat=[a]:=by unfold enc;rw[if_pos (by omega),ae3 rfl]
   rw[e];simp
  ·simp only[aag,secB,List.length_cons] at h1 h2 w1 w2
   cases l with
   | nil=>simp at w1
   | cons b l=>
    simp at w2
    have e:enc ((a.toNat-0xc0)*64+(b.toNat-0x80))=[a,b]:=by
     unfold enc
     rw[if_neg (by omega),if_pos (by omega),ae3 (c:=a) (by omega),ae3 (c:=b) (by omega)]
    exact⟨(a.toNat-0xc0)*64+(b.toNat-0x80),by unfold ag9;omega,by rw[e];simp⟩
  ·have hz:(aag k).size=3:=by rcases hk3 with rfl | rfl | rfl | rfl<;>rfl
   rw[hz] at w1 w2 w3
   match l,w1,w2,w3 with
   | b::c::l,_,w2,w3=>
    simp[secB] at w2
    simp[ae8] at w3
    have e: ∀p,p=((a.toNat-0xe0)*64+(b.toNat-0x80))*64+(c.toNat-0x80)→0x800≤p→p<0x10000→0xe0≤a.toNat→0x80≤b.toNat→b.toNat≤0xbf→enc p=[a,b,c]:=by
     intro p hp g1 g2 g3 g4 g5
     unfold enc
     rw[if_neg (by omega),if_neg (by omega),if_pos (by omega),ae3 (c:=a) (by omega),ae3 (c:=b) (by omega),ae3 (c:=c) (by omega)]
    rcases hk3 with rfl | rfl | rfl | rfl<;>simp only[aag] at h1 h2 w2<;>
     exact⟨((a.toNat-0xe0)*64+(b.toNat-0x80))*64+(c.toNat-0x80),by unfold ag9;omega,by rw[e _ rfl (by omega) (by omega) (by omega) (by omega) (by omega)];simp⟩
   | [b],w1,_,_=>simp at w1
   | [],w1,_,_=>simp at w1
  ·have hz:(aag k).size=4:=by rcases hk4 with rfl | rfl | rfl<;>rfl
   rw[hz] at w1 w2 w3
   match l,w1,w2,w3 with
   | b::c::d::l,_,w2,w3=>
    simp[secB] at w2
    simp[ae8] at w3
    have e: ∀p,p=(((a.toNat-0xf0)*64+(b.toNat-0x80))*64+(c.toNat-0x80))*64+(d.toNat-0x80)→0x10000≤p→0xf0≤a.toNat→0x80≤b.toNat→b.toNat≤0xbf→enc p=[a,b,c,d]:=by
     intro p hp g1 g3 g4 g5
     unfold enc
     rw[if_neg (by omega),if_neg (by omega),if_neg (by omega),ae3 (c:=a) (by omega),ae3 (c:=b) (by omega),ae3 (c:=c) (by omega),ae3 (c:=d) (by omega)]
    rcases hk4 with rfl | rfl | rfl<;>simp only[aag] at h1 h2 w2<;>
     exact⟨(((a.toNat-0xf0)*64+(b.toNat-0x80))*64+(c.toNat-0x80))*64+(d.toNat-0x80),by unfold ag9;omega,by rw[e _ rfl (by omega) (by omega) (by omega) (by omega)];simp⟩
   | [b,c],w1,_,_=>simp at w1
   | [b],w1,_,_=>simp at w1
   | [],w1,_,_=>simp at w1
theorem split_bytes (l:List UInt8): ∃(ps:List Nat) (rest:List UInt8),l=ac5 ps++rest∧(∀p∈ps,ag9 p)∧(rest=[]∨ag7 rest):=by
 generalize hn:l.length=n
 induction n using Nat.strongRecOn generalizing l with
 | ind n ih=>
  by_cases hne:l=[]
  ·exact⟨[],[],by simp[hne,ac5],by simp,.inl rfl⟩
  ·by_cases hc: ∃k,adm (l[0]?.getD 0).toNat=some k∧abg k l=true
   ·obtain⟨k,h1,h2⟩:=hc
    obtain⟨p,hp,hl⟩:=whole_enc hne h1 h2
    have hlen:=congrArg List.length hl
    rw[List.length_append] at hlen
    have hpos:=agp p
    obtain⟨ps,rest,e1,e2,e3⟩:=ih (l.drop (enc p).length).length (by omega) (l.drop (enc p).length) rfl
    exact⟨p::ps,rest,by rw[hl,e1];simp[ac5],by simpa using ⟨hp,e2⟩,e3⟩
   ·exact⟨[],l,by simp[ac5],by simp,.inr ⟨hne,fun k h1=>by
     cases h2:abg k l with
     | false=>rfl
     | true=>exact absurd ⟨k,h1,h2⟩ hc⟩⟩
end Go.Vf
namespace Go.Proofs.YtpfkoldfbecdlaaGreatDoor
open Go.RowKit Go.Vf Go.Maps
def Load8Post (m e:List UInt8)(w:World)(r:Ending)(w':World):Prop:=Below w.heap.size w w'∧
  ((∃why which line,aeo m e=.error (why,which,line)∧r=.returned (.tuple #[.agg #[.bool false,.slice none 0 0,.slice none 0 0],.int .i64 why,.int .i64 which,.int .i64 line]))∨
   (∃L F E l da dn dc ta tn tc,aeo m e=.ok ((L,F),E)∧aav m=.ok (L,F)∧RiseE l∧l.Perm E∧r=.returned (.tuple #[.agg #[.bool true,.slice da dn dc,.slice ta tn tc],.int .i64 0,.int .i64 0,.int .i64 0])∧MIn w'.heap.size w' (.slice da dn dc) (aap L)∧NOwn w' w.heap.size (.slice ta tn tc) l))
theorem afv {tmps:Array Value}{w:World}{h:Nat}{x y z a b c:Value}(hb:Blk w h 33 #[x,y,z])(t2:tmps[4]?.getD undef=.pointer (some ⟨h,0,none⟩))(t3:tmps[5]?.getD undef=a)(t4:tmps[6]?.getD undef=b)(t5:tmps[7]?.getD undef=c):
    (results Tryz.f6 tmps).run Tryz.prog w=.ok (.tuple #[.agg #[x,y,z],a,b,c]) w:=by
  have c0:w.cell? ⟨h,0,none⟩=some x:=hb.cell 0
  have c1:w.cell? ⟨h,1,none⟩=some y:=hb.cell 1
  have c2:w.cell? ⟨h,2,none⟩=some z:=hb.cell 2
  simp[results,Tryz.results6,go_sem,t2,t3,t4,t5,c0,c1,c2]
theorem min_set3 {w:World}{v:Value}{l:List PM}{g:Nat}{t:TypeId}{x:Bool}{a1 a2:Option Addr}{n1 n2 c1 c2:Nat}(h:MIn w.heap.size w v l)(hb:Blk w g t #[.bool x,.slice a1 n1 c1,.slice a2 n2 c2])(x' y' z':Value):
    MIn (((w.setCell ⟨g,0,none⟩ x').setCell ⟨g,1,none⟩ y').setCell ⟨g,2,none⟩ z').heap.size (((w.setCell ⟨g,0,none⟩ x').setCell ⟨g,1,none⟩ y').setCell ⟨g,2,none⟩ z') v l:=by
  have hsz:(((w.setCell ⟨g,0,none⟩ x').setCell ⟨g,1,none⟩ y').setCell ⟨g,2,none⟩ z').heap.size=w.heap.size:=by simp[World.setCell]
  have hk: ∀b j,b≠g→(((w.setCell ⟨g,0,none⟩ x').setCell ⟨g,1,none⟩ y').setCell ⟨g,2,none⟩ z').cell? ⟨b,j,none⟩=w.cell? ⟨b,j,none⟩:=fun b j hne=>by
    have:(((w.setCell ⟨g,0,none⟩ x').setCell ⟨g,1,none⟩ y').setCell ⟨g,2,none⟩ z').heap[b]? =w.heap[b]?:=(Below.heap_setCell _ ⟨g,2,none⟩ _ b hne).trans ((Below.heap_setCell _ ⟨g,1,none⟩ _ b hne).trans (Below.heap_setCell _ ⟨g,0,none⟩ _ b hne))
    simp only[World.cell?,this]
  have hni: ∀j k n,w.cell? ⟨g,j,none⟩≠some (.int k n):=fun j k n e=>by
    rw[hb.cell j] at e
    match j,e with
    | 0,e=>simp at e
    | 1,e=>simp at e
    | 2,e=>simp at e
    | j+3,e=>simp at e
  rw[hsz]
  rcases h with h | ⟨b,off,cap,e,hlt,hc⟩
  · exact .inl h
  · refine .inr ⟨b,off,cap,e,hlt,fun j hj=> ?_⟩
    obtain⟨pa,pk,pc,h1,h2,h3,h4⟩:=hc j hj
    have hne:b≠g:=fun e=>hni _ _ _ (by rw[←e];exact h1)
    refine⟨pa,pk,pc,(hk _ _ hne).trans h1,(hk _ _ hne).trans h2,(hk _ _ hne).trans h3,?_⟩
    rcases h4 with h4 | ⟨b2,off2,cap2,e2,hlt2,hc2⟩
    · exact .inl h4
    · refine .inr ⟨b2,off2,cap2,e2,hlt2,fun i hi=> ?_⟩
      have hne2:b2≠g:=fun e=>hni _ _ _ (by rw[←e];exact hc2 i hi)
      exact(hk _ _ hne2).trans (hc2 i hi)
set_option maxHeartbeats 4000000 in
set_option maxRecDepth 20000 in
theorem load8_any (m e:ByteArray)(hm:m.size≤281474976710656)(he:e.size≤281474976710656)(w:World):Calls Tryz.prog 6 #[.string m,.string e] w fun r w'=>Load8Post m.data.toList e.data.toList w r w':=by
  have hb0:=(Below.refl w.heap.size w).alloc (Nat.le_refl _) (.cells #[.bool false,.slice none 0 0,.slice none 0 0] 33)
  have hn0:=Blk.new w 33 #[.bool false,.slice none 0 0,.slice none 0 0]
  go_enter Tryz.func6,Tryz.ntmps6
  go_wp2_with fail
  generalize w.alloc (.cells #[.bool false,.slice none 0 0,.slice none 0 0] 33)=W at hb0 hn0⊢
  refine(refLoad_any m hm W).mono ?_
  rintro r w1 ⟨hb1,hp1⟩
  cases h1:aav m.data.toList with
  | error q=>
    obtain⟨why,line⟩:=q
    rw[h1] at hp1
    obtain rfl:r=_:=hp1
    have hy0:=load_why h1
    have hy1:(why==0)=false:=by simpa using hy0
    have hy2:(why !=0)=true:=by simpa using hy0
    have hb2:=hb1.alloc hb1.size (.cells #[.slice none 0 0] 28)
    have hn2:=hn0.below hb2 hn0.lt
    have hbw:=hb0.trans (hb2.mono hb0.size)
    have HF:Hid (aeo m.data.toList e.data.toList=.error (why,1,line)):=by show _=_;unfold aeo;rw[h1]
    go_upto_region 2 with fail
    generalize w1.alloc (.cells #[.slice none 0 0] 28)=w2 at hb2 hn2 hbw⊢
    obtain⟨⟨r0,r1,r2⟩,rz0,rz1,rz2⟩:=abo hn2
    go_wp2_with fail
    refine bodyPost_ret (afv (hn2.set3 _ _ _) rfl rfl rfl rfl) rfl ?_
    exact⟨hbw.trans (abb (Nat.le_refl _)),.inl ⟨_,_,_,HF.out,rfl⟩⟩
  | ok q=>
    obtain⟨L,F⟩:=q
    rw[h1] at hp1
    obtain⟨da,dn,dc,rfl,hD1⟩:=hp1
    have hb2:=(Below.refl w1.heap.size w1).alloc (Nat.le_refl _) (.cells #[.slice da dn dc] 28)
    have hd2:=Blk.new w1 28 #[.slice da dn dc]
    have hD2:=hD1.go hb2
    have hb12:=hb1.trans (hb2.mono hb1.size)
    have hn2:=hn0.below hb12 hn0.lt
    have hbw:=hb0.trans (hb12.mono hb0.size)
    go_upto_region 2 with fail
    generalize w1.alloc (.cells #[.slice da dn dc] 28)=w2 at hb2 hd2 hD2 hb12 hn2 hbw⊢
    generalize w1.heap.size=DB at hd2⊢
    go_wp2_with fail
    refine(refLoadE_any e he w2).mono ?_
    rintro r w3 ⟨hb3,⟨why,line,h2,rfl⟩ | ⟨E,l,ta,tn,tc,h2,hri,hpe,rfl,hN3⟩⟩
    · have hy0:=loadT_why h2
      have hy1:(why==0)=false:=by simpa using hy0
      have hy2:(why !=0)=true:=by simpa using hy0
      have hb4:=hb3.alloc hb3.size (.cells #[.slice none 0 0] 31)
      have hn4:=hn2.below hb4 hn2.lt
      have hbw4:=hbw.trans (hb4.mono hbw.size)
      have HF:Hid (aeo m.data.toList e.data.toList=.error (why,2,line)):=by show _=_;unfold aeo;rw[h1];simp only[h2]
      go_upto_region 5 with fail
      generalize w3.alloc (.cells #[.slice none 0 0] 31)=w4 at hb4 hn4 hbw4⊢
      obtain⟨⟨r0,r1,r2⟩,rz0,rz1,rz2⟩:=abo hn4
      go_wp2_with fail
      refine bodyPost_ret (afv (hn4.set3 _ _ _) rfl rfl rfl rfl) rfl ?_
      exact⟨hbw4.trans (abb (Nat.le_refl _)),.inl ⟨_,_,_,HF.out,rfl⟩⟩
    · have hb4:=(Below.refl w3.heap.size w3).alloc (Nat.le_refl _) (.cells #[.slice ta tn tc] 31)
      have ht4:=Blk.new w3 31 #[.slice ta tn tc]
      have hb34:=hb3.trans (hb4.mono hb3.size)
      have hN4:=hN3.go hb4
      have hlw:w.heap.size<w2.heap.size:=hn2.lt
      have hD4:=hD2.go hb34
      have hd4:=hd2.below hb34 hd2.lt
      have hn4:=hn2.below hb34 hn2.lt
      have hbw4:=hbw.trans (hb34.mono hbw.size)
      have HF:Hid (aeo m.data.toList e.data.toList=.ok ((L,F),E)):=by show _=_;unfold aeo;rw[h1];simp only[h2]
      go_upto_region 5 with fail
      generalize w3.alloc (.cells #[.slice ta tn tc] 31)=w4 at hb4 ht4 hN4 hD4 hd4 hn4 hbw4⊢
      generalize w3.heap.size=TB at ht4⊢
      obtain⟨⟨r0,r1,r2⟩,rz0,rz1,rz2⟩:=abo hn4
      have d0:w4.cell? ⟨DB,0,none⟩=some (.slice da dn dc):=hd4.cell 0
      have t0:w4.cell? ⟨TB,0,none⟩=some (.slice ta tn tc):=ht4.cell 0
      go_wp2_with fail
      refine bodyPost_ret (afv (hn4.set3 _ _ _) rfl rfl rfl rfl) rfl ?_
      refine⟨hbw4.trans (abb (Nat.le_refl _)),.inr ⟨L,F,E,l,_,_,_,_,_,_,HF.out,h1,hri,hpe,rfl,?_,?_⟩⟩
      · exact min_set3 hD4 hn4 _ _ _
      · obtain⟨ps,p1,p2,p3⟩:=((hN4.set (p:=⟨w.heap.size,0,none⟩) hlw (.bool true)).set (p:=⟨w.heap.size,1,none⟩) hlw (.slice da dn dc)).set (p:=⟨w.heap.size,2,none⟩) hlw (.slice ta tn tc)
        exact⟨ps,aae p1 (by omega),fun x hx=>⟨(p2 x hx).1.mono (by omega),aae (p2 x hx).2 (by omega)⟩,p3⟩
def AnyB (e:Ending):Prop:= ∃b,e=.returned (.bool b)
def Tb8 (w:World)(th:Bool)(dv _tv:Value):Prop:=th=false∨ ∃(t:List UInt8) (L:List Mk) (F:Int→List Int) (a:Option Addr) (n c:Nat),aav t=.ok (L,F)∧(∀q,(aao F q).length≤57)∧dv=.slice a n c∧MIn w.heap.size w dv (aap L)
theorem Tb8.go {w w':World}{th:Bool}{dv tv:Value}(h:Tb8 w th dv tv)(hb:Below w.heap.size w w'):Tb8 w' th dv tv:=by
 rcases h with h | ⟨t,L,F,a,n,c,h1,h2,h3,h4⟩
 ·exact .inl h
 ·exact .inr ⟨t,L,F,a,n,c,h1,h2,h3,h4.go hb⟩
set_option maxHeartbeats 8000000 in
set_option maxRecDepth 20000 in
theorem light_in (th:Bool)(da:Option Addr)(dn dc:Nat)(ta:Option Addr)(tn tc:Nat)(s:ByteArray)(hs:s.size≤4294967296)(w:World)(ht:Tb8 w th (.slice da dn dc) (.slice ta tn tc)):
  Calls Tryz.prog 27 #[.agg #[.bool th,.slice da dn dc,.slice ta tn tc],.string s,.int .i64 1000] w fun e w'=>AnyB e∧Below w.heap.size w w':=by
 obtain⟨ps,rest,hsp,hps,hrest⟩:=split_bytes s.data.toList
 have hb0:=(Below.refl w.heap.size w).alloc (Nat.le_refl _) (.cells #[.bool th,.slice da dn dc,.slice ta tn tc] 33)
 have hn0:=Blk.new w 33 #[.bool th,.slice da dn dc,.slice ta tn tc]
 have ht0:=ht.go hb0
 go_enter Tryz.func27,Tryz.ntmps27
 go_wp2_with fail
 generalize w.alloc (.cells #[.bool th,.slice da dn dc,.slice ta tn tc] 33)=w0 at hb0 hn0 ht0⊢
 refine(adf s hs ps rest hsp hps hrest w0).mono ?_
 rintro e w1 ⟨hp1,hb1⟩
 have hb01:=hb0.trans (hb1.mono hb0.size)
 have hn1:=hn0.below hb1 hn0.lt
 have HT1:Aside (Tb8 w1 th (.slice da dn dc) (.slice ta tn tc)):=ht0.go hb1
 have c0:w1.cell? ⟨w.heap.size,0,none⟩=some (.bool th):=hn1.cell 0
 cases th with
 | false=>
  rcases hp1 with ⟨hr0,v,rfl,_⟩ | ⟨hr0,rfl⟩
  ·go_wp2_with fail
   go_ret
   exact⟨⟨_,rfl⟩,hb01⟩
  ·go_wp2_with fail
   go_ret
   exact⟨⟨_,rfl⟩,hb01⟩
 | true=>
  rcases hp1 with ⟨hr0,v,rfl,hown⟩ | ⟨hr0,rfl⟩
  ·by_cases hlong:65536<s.size
   ·have hlz:decide ((65536:Int)<(s.size:Int))=true:=by simp;omega
    go_wp2_with fail
    go_ret
    exact⟨⟨_,rfl⟩,hb01⟩
   ·have hlz:decide ((65536:Int)<(s.size:Int))=false:=by simp;omega
    obtain⟨va,vc,rfl⟩:=hown.val
    have hpl:(ps.map fun p:Nat=>(p:Int)).length≤65536:=by
     have h1:=abk ps
     have h2:(ac5 ps++rest).length=s.size:=by rw[←hsp,←Lib.size_eq]
     rw[List.length_append] at h2
     rw[List.length_map]
     omega
    have HIN:Aside (Ints w1.heap.size w1 (.slice va (ps.map fun p:Nat=>(p:Int)).length vc) (ps.map fun p:Nat=>(p:Int))):=hown.ints
    generalize (ps.map fun p:Nat=>(p:Int))=zs at HIN hpl hown
    obtain⟨t,L,F,a',n',c',hld,h57,hdv,hmin⟩:=HT1.out.resolve_left (by decide)
    have HLD:Hid (aav t=.ok (L,F)):=hld
    have H57:Hid (∀q,(aao F q).length≤57):=h57
    have HMI:Aside (MIn w1.heap.size w1 (.slice da dn dc) (aap L)):=hmin
    have hlt1:=hn1.lt
    clear hown hsp hps hrest hdv hmin hld h57 HT1
    generalize hzl:zs.length=zl at*
    have HZL:Hid (zs.length=zl):=hzl
    clear hzl
    go_wp2_with fail
    go_loopg [2,10,11] zl (fun g1 mv av iv wr=> ∃(mk al i:Nat),mv=.int .i64 mk∧av=.int .i64 al∧iv=.int .i64 i∧mk≤1000∧al≤262144∧i≤zl∧zl-i≤g1∧Aside (Below w1.heap.size w1 wr))
    case atStart=>exact⟨1000,0,0,rfl,rfl,rfl,by omega,by omega,by omega,by omega,Below.refl _ _⟩
    case round=>
     obtain⟨mk,al,i,rfl,rfl,rfl,hmk,hal,hi,hg1,HBW⟩:=hrel
     by_cases hlt:i<zl
     ·have hltz:(i:Int)<(zl:Int):=by omega
      have hlen:i<zs.length:=by rw[HZL.out];exact hlt
      obtain⟨bz,oz,rfl,hcz⟩:=ints_at HIN.out hlen
      have hbz:bz<w1.heap.size:=World.block_lt_of_cell? w1 _ hcz
      generalize zs[i]=q at hcz
      obtain⟨wo,hwo⟩: ∃wo,wo=wr:=⟨_,rfl⟩
      subst hwo
      have y0:=(HBW.out.cell (p:=⟨bz,oz+i,none⟩) hbz).trans hcz
      have y1:wo.cell? ⟨w.heap.size,1,none⟩=some (.slice da dn dc):=(HBW.out.cell (p:=⟨w.heap.size,1,none⟩) hlt1).trans (hn1.cell 1)
      have HPC:Hid (∀X,Below wo.heap.size wo X→Calls Tryz.prog 74 #[.agg #[.slice da dn dc],.int .i64 q] X fun e w'=> ∃a n c,e=.returned (.slice a n c)∧(n≤57∧ ∃pp,Ints w'.heap.size w' (.slice a n c) pp∧pp.length=n)∧Below wo.heap.size wo w'):=fun X hX=>by
       refine(rparts_load HLD.out q (H57.out q) (HMI.out.go (HBW.out.trans (hX.mono HBW.out.size)))).mono ?_
       rintro e w' ⟨a,n,c,rfl,h1,h2⟩
       obtain⟨_,_,e1⟩:=h1.val
       obtain rfl:n=_:=(Value.slice.inj e1).2.1
       exact⟨a,_,c,rfl,⟨H57.out q,_,h1.ints,rfl⟩,hX.trans (h2.mono hX.size)⟩
      have hbd:Below wo.heap.size wo wo.drew:=(Below.refl _ wo).drew
      clear hcz hbz
      go_upto_region 8 with fail
      go_cut [12] from 32 to 70 (fun v wx=> ∃a n c,v=.slice a n c∧(n≤57∧ ∃pp,Aside (Ints wx.heap.size wx (.slice a n c) pp)∧Hid (pp.length=n))∧Aside (Below wo.heap.size wo wx))
      case first=>
       go_region_with (first | (go_at_call 74;with_reducible refine(HPC.out _ (by assumption)).mono ?_;rintro e w3 ⟨a3,n3,c3,rfl,⟨hn3,pp,hi3,hl3⟩,hb3⟩))
       all_goals
        go_wp2_with fail
        go_meet
        exact⟨a3,n3,c3,rfl,⟨hn3,pp,hi3,hl3⟩,hb3⟩
      case rest=>
       obtain⟨a3,n3,c3,rfl,⟨hn3,pp,HI3,HL3⟩,HB3⟩:=hcut
       have hb1o:=HBW.out.trans (HB3.out.mono HBW.out.size)
       clear HPC y0 y1 hbd
       go_wp2_with fail
       go_loopg [2,13] n3 (fun g2 mv kv wr=> ∃(m k:Nat),mv=.int .i64 ((mk:Int)-(m:Int))∧kv=.int .i64 k∧m≤k∧k≤n3∧n3-k≤g2∧Aside (Below wc.heap.size wc wr))
       case atStart=>exact⟨0,0,by simp,rfl,by omega,by omega,by omega,Below.refl _ _⟩
       case round=>
        obtain⟨m,k,rfl,rfl,hmk2,hk,hg2,HBX⟩:=hrel
        by_cases hkl:k<n3
        ·have hklz:(k:Int)<(n3:Int):=by omega
         obtain⟨bp,op,rfl,hcp⟩:=ints_at HI3.out (show k<pp.length by rw[HL3.out];exact hkl)
         have hbp:bp<wc.heap.size:=World.block_lt_of_cell? wc _ hcp
         generalize pp[k]'(by rw[HL3.out];exact hkl)=u at hcp
         have z0:=(HBX.out.cell (p:=⟨bp,op+k,none⟩) hbp).trans hcp
         have hb1w:=hb1o.trans (HBX.out.mono hb1o.size)
         have z1:wr.cell? ⟨w.heap.size,1,none⟩=some (.slice da dn dc):=(hb1w.cell (p:=⟨w.heap.size,1,none⟩) hlt1).trans (hn1.cell 1)
         have HCC:Hid (∀X,Below wr.heap.size wr X→Calls Tryz.prog 75 #[.agg #[.slice da dn dc],.int .i64 u] X fun e w'=> ∃cl:Int,e=.returned (.int .i64 cl)∧Below wr.heap.size wr w'):=fun X hX=>by
          refine(afn HLD.out u (HMI.out.go (hb1w.trans (hX.mono hb1w.size)))).mono ?_
          rintro e w' ⟨rfl,h2⟩
          exact⟨_,rfl,hX.trans (h2.mono hX.size)⟩
         have hbd:Below wr.heap.size wr wr.drew:=(Below.refl _ wr).drew
         clear hcp hbp
         go_upto_region 13 with fail
         go_cut [62] from 49 to 64 (fun v wx=> ∃b,v=.bool b∧Aside (Below wr.heap.size wr wx))
         case first=>
          go_region_with (first | (go_at_call 75;with_reducible refine(HCC.out _ (by assumption)).mono ?_;rintro e w4 ⟨cl,rfl,hb4⟩))
          all_goals
           go_wp2_with fail
           go_meet
           exact⟨_,rfl,by assumption⟩
         case rest=>
          obtain⟨b,rfl,HB4⟩:=hcut
          have HBY:Aside (Below _ _ _):=HBX.out.trans (HB4.out.mono HBX.out.size)
          cases b with
          | true=>
           go_wp2
           go_roundg (n3-(k+1))
           case measure=>omega
           case rel=>exact⟨m+1,k+1,by first | rfl | (congr 1;omega) | go_num,by first | rfl | go_num,by omega,by omega,Nat.le_refl _,HBY⟩
          | false=>
           go_wp2
           go_roundg (n3-(k+1))
           case measure=>omega
           case rel=>exact⟨m,k+1,by first | rfl | go_num,by first | rfl | go_num,by omega,by omega,Nat.le_refl _,HBY⟩
        ·have hklz: ¬(k:Int)<(n3:Int):=by omega
         have HBF:Aside (Below _ _ _):=hb1o.trans (HBX.out.mono hb1o.size)
         by_cases hneg:(mk:Int)-(m:Int)<0
         ·have d1:decide ((mk:Int)-(m:Int)<0)=true:=by simpa using hneg
          go_wp2_with fail
          go_ret
          exact⟨⟨_,rfl⟩,hb01.trans (HBF.out.mono hb01.size)⟩
         ·have d1:decide ((mk:Int)-(m:Int)<0)=false:=by simpa using hneg
          by_cases hmany:(262144:Int)<(al:Int)+(n3:Int)
          ·have d2:decide ((262144:Int)<(al:Int)+(n3:Int))=true:=by simpa using hmany
           go_wp2_with fail
           go_ret
           exact⟨⟨_,rfl⟩,hb01.trans (HBF.out.mono hb01.size)⟩
          ·have d2:decide ((262144:Int)<(al:Int)+(n3:Int))=false:=by simpa using hmany
           go_wp2
           go_roundg (zl-(i+1))
           case measure=>omega
           case rel=>exact⟨mk-m,al+n3,i+1,by first | rfl | (congr 1;omega),by first | rfl | (congr 1;omega),by first | rfl | go_num,by omega,by omega,by omega,by omega,HBF⟩
     ·have hltz: ¬(i:Int)<(zl:Int):=by omega
      go_wp2_with fail
      go_ret
      exact⟨⟨_,rfl⟩,hb01.trans (HBW.out.mono hb01.size)⟩
  ·go_wp2_with fail
   go_ret
   exact⟨⟨_,rfl⟩,hb01⟩
set_option maxHeartbeats 4000000 in
set_option maxRecDepth 20000 in
theorem agr (m e s:ByteArray)(hm:m.size≤281474976710656)(he:e.size≤281474976710656)(hs:s.size≤4294967296)(h57: ∀L F E,aeo m.data.toList e.data.toList=.ok ((L,F),E)→ ∀q,(aao F q).length≤57)(w:World):
  Calls Tryz.prog 10 #[.agg #[.string m,.string e],.string s] w fun e w'=>AnyB e∧Below w.heap.size w w':=by
 have hb0:=(Below.refl w.heap.size w).alloc (Nat.le_refl _) (.cells #[.string m,.string e] 42)
 have hn0:=Blk.new w 42 #[.string m,.string e]
 have c0:(w.alloc (.cells #[.string m,.string e] 42)).cell? ⟨w.heap.size,0,none⟩=some (.string m):=hn0.cell 0
 have c1:(w.alloc (.cells #[.string m,.string e] 42)).cell? ⟨w.heap.size,1,none⟩=some (.string e):=hn0.cell 1
 go_enter Tryz.func10,Tryz.ntmps10
 go_wp2_with fail
 generalize w.alloc (.cells #[.string m,.string e] 42)=w0 at hb0 hn0 c0 c1⊢
 refine(load8_any m e hm he w0).mono ?_
 rintro r w1 ⟨hb1,⟨why,which,line,hl,rfl⟩ | ⟨L,F,E,l,da,dn,dc,ta,tn,tc,hl,hR,hri,hpe,rfl,hD,hN⟩⟩
 ·clear c0 c1
  have hb2:=hb1.alloc hb1.size (.cells #[.bool false,.slice none 0 0,.slice none 0 0] 33)
  have hn2:=Blk.new w1 33 #[.bool false,.slice none 0 0,.slice none 0 0]
  have hb02:=hb0.trans (hb2.mono hb0.size)
  go_upto_region 2 with fail
  generalize w1.alloc (.cells #[.bool false,.slice none 0 0,.slice none 0 0] 33)=w2 at hb2 hn2 hb02⊢
  generalize w1.heap.size=DB at hn2⊢
  have c0:w2.cell? ⟨DB,0,none⟩=some (.bool false):=hn2.cell 0
  have c1:w2.cell? ⟨DB,1,none⟩=some (.slice none 0 0):=hn2.cell 1
  have c2:w2.cell? ⟨DB,2,none⟩=some (.slice none 0 0):=hn2.cell 2
  go_wp2_with fail
  refine(light_in false none 0 0 none 0 0 s hs w2 (.inl rfl)).mono ?_
  rintro _ w3 ⟨⟨b,rfl⟩,hb3⟩
  go_wp2_with fail
  go_ret
  exact⟨⟨_,rfl⟩,hb02.trans (hb3.mono hb02.size)⟩
 ·clear c0 c1
  have hb2':=(Below.refl w1.heap.size w1).alloc (Nat.le_refl _) (.cells #[.bool true,.slice da dn dc,.slice ta tn tc] 33)
  have hb2:=hb1.alloc hb1.size (.cells #[.bool true,.slice da dn dc,.slice ta tn tc] 33)
  have hn2:=Blk.new w1 33 #[.bool true,.slice da dn dc,.slice ta tn tc]
  have hb02:=hb0.trans (hb2.mono hb0.size)
  have HD:Aside (MIn (w1.alloc (.cells #[.bool true,.slice da dn dc,.slice ta tn tc] 33)).heap.size (w1.alloc (.cells #[.bool true,.slice da dn dc,.slice ta tn tc] 33)) (.slice da dn dc) (aap L)):=hD.go hb2'
  have h57':=h57 L F E hl
  clear hD hN hl
  go_upto_region 2 with fail
  generalize w1.alloc (.cells #[.bool true,.slice da dn dc,.slice ta tn tc] 33)=w2 at hb2 hn2 hb02 HD⊢
  generalize w1.heap.size=DB at hn2⊢
  have c0:w2.cell? ⟨DB,0,none⟩=some (.bool true):=hn2.cell 0
  have c1:w2.cell? ⟨DB,1,none⟩=some (.slice da dn dc):=hn2.cell 1
  have c2:w2.cell? ⟨DB,2,none⟩=some (.slice ta tn tc):=hn2.cell 2
  go_wp2_with fail
  refine(light_in true da dn dc ta tn tc s hs w2 (.inr ⟨_,L,F,da,dn,dc,hR,h57',rfl,HD.out⟩)).mono ?_
  rintro _ w3 ⟨⟨b,rfl⟩,hb3⟩
  go_wp2_with fail
  go_ret
  exact⟨⟨_,rfl⟩,hb02.trans (hb3.mono hb02.size)⟩
theorem right_in {s:Int}{sh:Bool}(h:acp s sh=true):1≤s∧s≤4:=by
 unfold acp at h
 simp only[Bool.and_eq_true,decide_eq_true_eq] at h
 obtain⟨h1,h2⟩:=h
 split at h2<;>omega
structure Spelt (L:List Mk)(F:Int→List Int)(txt:ByteArray)(ps:List Nat)(rest:List UInt8)(X:List Int):Prop where
 split:txt.data.toList=ac5 ps++rest
 pts: ∀p∈ps,ag9 p
 rest:rest=[]∨ag7 rest
 form:Formed L F (ps.map fun p:Nat=>(p:Int)) X
theorem spelt_any {t:List UInt8}{L:List Mk}{F:Int→List Int}(hm:aav t=.ok (L,F))(txt:ByteArray): ∃ps rest X,Spelt L F txt ps rest X:=by
 obtain⟨ps,rest,hsp,hps,hrest⟩:=split_bytes txt.data.toList
 obtain⟨X,hX,hXl,hXm⟩:=form_exists (fun x=>(afu hm x).1) (aa3 F (ps.map fun p:Nat=>(p:Int)))
 exact⟨ps,rest,X,hsp,hps,hrest,hX,hXm,hXl⟩
theorem Spelt.len {L:List Mk}{F:Int→List Int}{txt:ByteArray}{ps:List Nat}{rest:List UInt8}{X:List Int}(h:Spelt L F txt ps rest X):ps.length≤txt.size:=by
 have h1:=abk ps
 have h2:(ac5 ps++rest).length=txt.size:=by rw[←h.split,←Lib.size_eq]
 rw[List.length_append] at h2
 omega
theorem Spelt.xlen {w:World}{bd:Nat}{L:List Mk}{F:Int→List Int}{txt:ByteArray}{ps:List Nat}{rest:List UInt8}{X:List Int}(h:Spelt L F txt ps rest X)(hd:DataAt w bd L F):X.length≤57*ps.length:=form_few hd h.form _ (by rw[List.length_map];exact Nat.le_refl _)
theorem pts_in {ps:List Nat}(h: ∀p∈ps,ag9 p): ∀q∈(ps.map fun p:Nat=>(p:Int)),InI q:=fun q hq=>by
 obtain⟨p,hp,rfl⟩:=List.mem_map.1 hq
 have:=h p hp
 unfold ag9 at this
 unfold InI
 omega
def smE (na nb:Nat)(ra rb:List UInt8):Int:=if 65536<na∨65536<nb then 2 else if ra=[]∧rb=[] then 0 else 30
def smB (na nb:Nat)(ra rb:List UInt8)(X Y:List Int):Bool:=decide (smE na nb ra rb=0)&&decide (X=Y)
set_option maxHeartbeats 4000000 in
set_option maxRecDepth 20000 in
theorem wsame_any {b bd T:Nat}{L:List Mk}{F:Int→List Int}{E:List Ent}{w:World}(h:TbAt w b bd T L F E)(hg:Tabs w){ta tb:ByteArray}{ps qs:List Nat}{ra rb:List UInt8}{X Y:List Int}(ha:Spelt L F ta ps ra X)(hb:Spelt L F tb qs rb Y):
  Calls Tryz.prog 15 #[.pointer (some ⟨b,0,none⟩),.string ta,.string tb] w fun e w'=>e=.returned (.tuple #[.bool (smB ta.size tb.size ra rb X Y),.int .i64 (smE ta.size tb.size ra rb)])∧Below w.heap.size w w':=by
 obtain⟨er,her⟩: ∃er,er=smE ta.size tb.size ra rb:=⟨_,rfl⟩
 obtain⟨eb,heb⟩: ∃eb,eb=smB ta.size tb.size ra rb X Y:=⟨_,rfl⟩
 rw[←her,←heb]
 have HER:Hid (er=smE ta.size tb.size ra rb):=her
 have HEB:Hid (eb=smB ta.size tb.size ra rb X Y):=heb
 have HT:Hid (TbAt w b bd T L F E):=h
 have HG:Hid (Tabs w):=hg
 have HA:Hid (Spelt L F ta ps ra X):=ha
 have HB:Hid (Spelt L F tb qs rb Y):=hb
 clear her heb h hg ha hb
 have hl1:=isLong_any ta w
 have hl2:=isLong_any tb w
 go_enter Tryz.func15,Tryz.ntmps15
 go_wp2_with fail
 refine hl1.mono ?_
 rintro _ w1 ⟨rfl,rfl⟩
 clear hl1
 by_cases h1:65536<ta.size
 ·have e1:er=2:=by rw[HER.out];unfold smE;rw[if_pos (.inl h1)]
  have e2:eb=false:=by rw[HEB.out];unfold smB smE;rw[if_pos (.inl h1)];rfl
  subst e1 e2
  rw[decide_eq_true h1]
  clear hl2 h1
  go_wp2_with fail
  go_ret2
  exact⟨rfl,Below.refl _ _⟩
 rw[decide_eq_false h1]
 go_wp2_with fail
 refine hl2.mono ?_
 rintro _ w1 ⟨rfl,rfl⟩
 clear hl2
 by_cases h2:65536<tb.size
 ·have e1:er=2:=by rw[HER.out];unfold smE;rw[if_pos (.inr h2)]
  have e2:eb=false:=by rw[HEB.out];unfold smB smE;rw[if_pos (.inr h2)];rfl
  subst e1 e2
  rw[decide_eq_true h2]
  clear h1 h2
  go_wp2_with fail
  go_ret2
  exact⟨rfl,Below.refl _ _⟩
 rw[decide_eq_false h2]
 have hn: ¬(65536<ta.size∨65536<tb.size):=by omega
 have HE3:Hid (er=if ra=[]∧rb=[] then 0 else 30):=by show _=_;rw[HER.out];unfold smE;rw[if_neg hn]
 have HE4:Hid (eb=(decide (er=0)&&decide (X=Y))):=by show _=_;rw[HEB.out,HER.out];rfl
 have hc:=points_any ta (by omega) ps ra HA.out.split HA.out.pts HA.out.rest w HG.out
 have HZ:Hid (ta.size≤65536∧tb.size≤65536):=⟨by omega,by omega⟩
 clear HER HEB hn h1 h2
 go_wp2_with fail
 refine hc.mono ?_
 clear hc
 rintro e w1 ⟨⟨hr0,v1,rfl,hown1⟩ | ⟨hr0,rfl⟩,hb1⟩
 ·obtain⟨a1,c1,rfl⟩:=hown1.val
  have HN1:Hid (Numb w1 a1 (ps.map fun p:Nat=>(p:Int)).length c1 (ps.map fun p:Nat=>(p:Int))):=⟨hown1.ints,rfl,pts_in HA.out.pts,by have:=HA.out.len;have:=HZ.out.1;rw[List.length_map];omega⟩
  have hc:=points_any tb (by have:=HZ.out.2;omega) qs rb HB.out.split HB.out.pts HB.out.rest w1 (HG.out.own hb1)
  obtain⟨pn,hpn⟩: ∃pn,(ps.map fun p:Nat=>(p:Int)).length=pn:=⟨_,rfl⟩
  rw[hpn] at HN1
  rw[hpn]
  have HB1:Hid (Below w.heap.size w w1):=hb1
  have HR0:Hid (ra=[]):=hr0
  clear hown1 hb1 hpn hr0
  go_wp2_with fail
  refine hc.mono ?_
  clear hc
  rintro e w2 ⟨⟨hr1,v2,rfl,hown2⟩ | ⟨hr1,rfl⟩,hb2⟩
  ·obtain⟨a2,c2,rfl⟩:=hown2.val
   have HB2:Hid (Below w.heap.size w w2):=HB1.out.trans (hb2.mono HB1.out.size)
   have ht2:=HT.out.below HB2.out
   obtain⟨tm,htm⟩:=ht2.load
   have hz:=HZ.out
   have hla:=HA.out.len
   have hlb:=HB.out.len
   have hxa:=HA.out.xlen ht2.data
   have hxb:=HB.out.xlen ht2.data
   have hn2:Numb w2 a2 (qs.map fun p:Nat=>(p:Int)).length c2 (qs.map fun p:Nat=>(p:Int)):=⟨hown2.ints,rfl,pts_in HB.out.pts,by rw[List.length_map];omega⟩
   have hc:=same_load htm ht2.data (HN1.out.below hb2) hn2 HA.out.form.form (by omega) HB.out.form.form (by omega)
   have q0:w2.cell? ⟨b,0,none⟩=some (.pointer (some ⟨bd,0,none⟩)):=ht2.blk.cell 0
   have e1:er=0:=by rw[HE3.out,if_pos ⟨HR0.out,hr1⟩]
   have e2:eb=decide (X=Y):=by rw[HE4.out,e1];simp
   rw[←e2] at hc
   subst e1
   obtain⟨qn,hqn⟩: ∃qn,(qs.map fun p:Nat=>(p:Int)).length=qn:=⟨_,rfl⟩
   rw[hqn] at hc⊢
   clear hn2 hown2 ht2 hla hlb hxa hxb hz htm hb2 hqn hr1 e2 HE3 HE4 HN1 HB1
   go_wp2_with fail
   refine hc.mono ?_
   clear hc q0
   rintro _ w3 ⟨rfl,hb3⟩
   go_wp2_with fail
   go_ret2
   exact⟨rfl,HB2.out.trans (hb3.mono HB2.out.size)⟩
  ·have e1:er=30:=by rw[HE3.out,if_neg (fun h=>hr1 h.2)]
   have e2:eb=false:=by rw[HE4.out,e1];simp
   subst e1 e2
   clear HE3 HE4
   go_wp2_with fail
   go_ret2
   exact⟨rfl,HB1.out.trans (hb2.mono HB1.out.size)⟩
 ·have e1:er=30:=by rw[HE3.out,if_neg (fun h=>hr0 h.1)]
  have e2:eb=false:=by rw[HE4.out,e1];simp
  subst e1 e2
  clear HE3 HE4
  go_wp2_with fail
  go_ret2
  exact⟨rfl,hb1⟩
end Go.Proofs.YtpfkoldfbecdlaaGreatDoor
