/- Contracts and lemmas (nothing is claimed here). -/
import Derived.Test.YtfhpgmlfgjfknaaGreatDoorJ33
namespace Go.Proofs.YtfhpgmlfgjfknaaGreatDoor
open Go.RowKit Go.Vf Go.Maps
theorem a8z:(Tryz.prog.info? 4).map (fun i=>(i.zero,i.size,i.bytes))=some (some (.bool false),1,1):=by kernel_rfl
def aj3 (mt:List Bool):Array Value:=(mt.map Value.bool).toArray
theorem anp (n:Nat):madeCells #[.bool false] n=aj3 (List.replicate n false):=by
 apply Array.ext'
 refine List.ext_getElem? fun j=> ?_
 by_cases h:j<n<;>simp[madeCells,aj3,h,Nat.mod_one]
def ap3 (w:World)(g:Nat):Nat:=match w.heap[g]? with
 | some (.cells cs _ _)=>(cs.toList.filter fun v=>match v with | .bool b=> !b | _=>false).length
 | _=>0
def a7s:Value→Nat
 | .slice _ n _=>n
 | _=>0
theorem auy {w:World}{g:Nat}{mt:List Bool}(h:Blk w g 4 (aj3 mt)):ap3 w g=mt.count false:=by
 unfold ap3
 rw[show w.heap[g]? =_ from h]
 simp only[aj3]
 clear h
 induction mt with
 | nil=>rfl
 | cons b r ih=>cases b<;>simp_all
theorem a1k: ∀ {mt:List Bool} {k:Nat},mt[k]? =some false→(mt.set k true).count false+1=mt.count false:=by
 intro mt
 induction mt with
 | nil=>intro k h;simp at h
 | cons b r ih=>
  intro k h
  cases k with
  | zero=>simp at h;subst h;simp
  | succ k=>
   simp only[List.getElem?_cons_succ] at h
   have:=ih h
   cases b<;>simp<;>omega
theorem a4z {mt:List Bool}{k:Nat}{b:Bool}(h:mt[k]? =some b):(aj3 mt)[k]? =some (.bool b):=by simp[aj3,h]
theorem a1w (mt:List Bool)(k:Nat)(b:Bool):(aj3 mt).setIfInBounds k (.bool b)=aj3 (mt.set k b):=by
 apply Array.ext'
 simp[aj3]
structure BK (l:List PM)(w:World)(a:Option Addr)(cap:Nat)(wr:World)(todo:List Int)(mt:List Bool)(g o c:Nat):Prop where
 box:Blk wr w.heap.size 62 #[.slice a l.length cap]
 met:Blk wr (w.heap.size+1) 4 (aj3 mt)
 tr:TR wr (w.heap.size+2) g o c todo
 below:Below w.heap.size w wr
 sz:w.heap.size+2≤wr.heap.size
theorem Blk.old {w w':World}{b:Nat}{t:TypeId}{cs:Array Value}(h:Blk w b t cs)(hb:Below w.heap.size w w'):Blk w' b t cs:=h.below hb h.lt
theorem TR.lt {w:World}{base g o c:Nat}{zs:List Int}(h:TR w base g o c zs):g<w.heap.size:=by
 obtain⟨cur,h1,_⟩:=h.blk
 exact(Array.getElem?_eq_some_iff.1 h1).1
theorem TR.one (W:World)(p:Int){base:Nat}(h:base≤W.heap.size):TR (W.alloc (.cells #[.int .i64 p] 3)) base W.heap.size 0 1 [p]:=
 ⟨h,by simp,#[.int .i64 p],Blk.new W 3 #[.int .i64 p],by simp,fun j hj=>by
  have:j=0:=by simp at hj;omega
  subst this
  rfl⟩
theorem BK.old {l:List PM}{w:World}{a:Option Addr}{cap:Nat}{wr wx:World}{todo:List Int}{mt:List Bool}{g o c:Nat}(h:BK l w a cap wr todo mt g o c)(hb:Below wr.heap.size wr wx):BK l w a cap wx todo mt g o c:=
 ⟨h.box.old hb,h.met.old hb,h.tr.keep (hb.block g h.tr.lt),h.below.trans (hb.mono (by have:=h.sz;omega)),Nat.le_trans h.sz hb.size⟩
theorem BK.mark {l:List PM}{w:World}{a:Option Addr}{cap:Nat}{wr:World}{todo:List Int}{mt:List Bool}{g o c:Nat}(h:BK l w a cap wr todo mt g o c)(k:Nat):BK l w a cap (wr.setCell ⟨w.heap.size+1,k,none⟩ (.bool true)) todo (mt.set k true) g o c:=by
 have hg:=h.tr.ge
 refine⟨(Below.heap_setCell wr ⟨w.heap.size+1,k,none⟩ _ _ (by show w.heap.size≠w.heap.size+1;omega)).trans h.box,?_,h.tr.keep (Below.heap_setCell wr ⟨w.heap.size+1,k,none⟩ _ _ (by show g≠w.heap.size+1;omega)),h.below.setCell (by show w.heap.size≤w.heap.size+1;omega) _,by simpa[World.setCell] using h.sz⟩
 have:=h.met.set k (.bool true)
 rwa [a1w] at this
theorem BK.put {l:List PM}{w:World}{a:Option Addr}{cap:Nat}{wr wx:World}{todo td:List Int}{mt:List Bool}{g o c g' o' c':Nat}(h:BK l w a cap wr todo mt g o c){ob:Obj}(hg:(wr.alloc ob).grownBy wx (some g))(ht:TR wx (w.heap.size+2) g' o' c' td):BK l w a cap wx td mt g' o' c':=by
 have hge:=h.tr.ge
 have ha:=(Below.refl wr.heap.size wr).alloc (Nat.le_refl _) ob
 have hb:=h.box.old ha
 have hm:=h.met.old ha
 have hsz:=h.sz
 have hs:=hg.size
 have ha2:=ha.size
 exact⟨(hg.block _ hb.lt (fun e=>by cases e;omega)).trans hb,(hg.block _ hm.lt (fun e=>by cases e;omega)).trans hm,ht,(h.below.trans (ha.mono (by omega))).grown hg (by omega) (fun k e=>by cases e;omega),by omega⟩
def aut (l:List PM)(n₀:Nat)(z:Int)(W:World)(v:Value)(wx:World):Prop:=
 ∃bM pa pk pc,v=.pointer (some ⟨bM,0,none⟩)∧W.heap.size≤bM∧Blk wx bM 153 #[.int .i64 z,.int .i64 (asf l z),.slice pa pk pc]∧Ints n₀ wx (.slice pa pk pc) (aal l z)∧Below W.heap.size W wx
theorem ame {l:List PM}{n₀:Nat}{z:Int}{W w3:World}{pa:Option Addr}{pk pc:Nat}{A:Prop}(h:Ints n₀ w3 (.slice pa pk pc) (aal l z))(hn:n₀≤w3.heap.size)(hs:W.heap.size≤w3.heap.size)
  (hS:A∧Below W.heap.size W (w3.alloc (.cells #[.int .i64 z,.int .i64 (asf l z),.slice pa pk pc] 153))):aut l n₀ z W (.pointer (some ⟨w3.heap.size,0,none⟩)) (w3.alloc (.cells #[.int .i64 z,.int .i64 (asf l z),.slice pa pk pc] 153)):=
 ⟨_,pa,pk,pc,rfl,hs,Blk.new _ _ _,h.below ((Below.refl w3.heap.size w3).alloc (Nat.le_refl _) _) hn,hS.2⟩
theorem amd {l:List PM}{n₀:Nat}{z:Int}{W w3:World}{pa:Option Addr}{pk pc:Nat}{A:Prop}{z0 z1 z2:Value}(h:Ints n₀ w3 (.slice pa pk pc) (aal l z))(hn:n₀≤W.heap.size)(hq:Blk w3 W.heap.size 153 #[z0,z1,z2])
  (hS:A∧Below W.heap.size W (((w3.setCell ⟨W.heap.size,0,none⟩ (.int .i64 z)).setCell ⟨W.heap.size,1,none⟩ (.int .i64 (asf l z))).setCell ⟨W.heap.size,2,none⟩ (.slice pa pk pc))):
  aut l n₀ z W (.pointer (some ⟨W.heap.size,0,none⟩)) (((w3.setCell ⟨W.heap.size,0,none⟩ (.int .i64 z)).setCell ⟨W.heap.size,1,none⟩ (.int .i64 (asf l z))).setCell ⟨W.heap.size,2,none⟩ (.slice pa pk pc)):=
 ⟨_,pa,pk,pc,rfl,Nat.le_refl _,hq.set3 _ _ _,h.below (abd (Nat.le_refl _)) hn,hS.2⟩
set_option maxHeartbeats 4000000 in
set_option maxRecDepth 20000 in
theorem asz (l:List PM)(hrise:(l.map PM.point).Pairwise (· < ·))(hll:l.length≤1048576)(hpl: ∀p,(aal l p).length≤131072)(v:Value)(p:Int)(n₀:Nat)(w:World)(hn₀:n₀≤w.heap.size)(hin:MIn n₀ w v l):
  Calls Tryz.prog 97 #[.agg #[v],.int .i64 p] w fun e w'=>(∃b,e=.returned (.bool b)∧(b=true↔Lead (aal l) p p))∧Below w.heap.size w w':=by
 obtain⟨a,cap,rfl⟩:=hin.val
 obtain⟨i4,hi4,hz4,hs4,hy4⟩:=info_parts a8z
 have hb0:=(Below.refl w.heap.size w).alloc (Nat.le_refl _) (.cells #[.slice a l.length cap] 62)
 have hbn:=Blk.new w 62 #[.slice a l.length cap]
 have e0:(w.alloc (.cells #[.slice a l.length cap] 62)).cell? ⟨w.heap.size,0,none⟩=some (.slice a l.length cap):=hbn.cell 0
 have hby:i4.bytes*l.length≤281474976710656:=by rw[hy4];omega
 have h63:l.length≤9223372036854775807:=by omega
 have hb1:=hb0.alloc (by simp) (.cells (madeCells #[.bool false] l.length) 4)
 have hm1:=Blk.new (w.alloc (.cells #[.slice a l.length cap] 62)) 4 (madeCells #[.bool false] l.length)
 have hd1:Blk ((w.alloc (.cells #[.slice a l.length cap] 62)).alloc (.cells (madeCells #[.bool false] l.length) 4)) w.heap.size 62 #[.slice a l.length cap]:=(Below.heap_alloc _ _ _ (by simp)).trans hbn
 rw[anp] at hm1
 rw[show (w.alloc (.cells #[.slice a l.length cap] 62)).heap.size=w.heap.size+1 by simp] at hm1
 go_enter Tryz.func97,Tryz.ntmps97
 go_upto_region 2 with (first | (refine wpList_make_row _ rfl _ _ 216 rfl 4 i4 (.bool false) Tryz.underlying216 hi4 hz4 hs4 rfl .i64 .i64 l.length rfl rfl hby h63 ?_))
 have HMD:Hid (madeCells #[.bool false] l.length=aj3 (List.replicate l.length false)):=anp _
 rw[HMD.out] at hb1 hd1⊢
 have hsz1:w.heap.size+2=((w.alloc (.cells #[.slice a l.length cap] 62)).alloc (.cells (aj3 (List.replicate l.length false)) 4)).heap.size:=by simp
 clear hbn e0 hb0 hi4 hz4 hs4 hy4 hby h63
 generalize (w.alloc (.cells #[.slice a l.length cap] 62)).alloc (.cells (aj3 (List.replicate l.length false)) 4)=W at hb1 hm1 hd1 hsz1⊢
 have hbt:=(Below.refl W.heap.size W).alloc (Nat.le_refl _) (.cells #[.int .i64 p] 3)
 have hk0:BK l w a cap (W.alloc (.cells #[.int .i64 p] 3)) [p] (List.replicate l.length false) W.heap.size 0 1:=
  ⟨hd1.old hbt,hm1.old hbt,TR.one W p (by omega),hb1.trans (hbt.mono (by omega)),by simp;omega⟩
 go_upto_region 3 with fail
 generalize W.alloc (.cells #[.int .i64 p] 3)=W2 at hk0⊢
 generalize hgW:W.heap.size=gW at hk0⊢
 clear hgW hbt hd1 hm1 hb1 hsz1 W
 go_loopw [6,7,8,9,10] (fun t _ _ _ _ wr=> ∃(todo:List Int) (mt:List Bool) (x:Int) (g o c:Nat),t=.slice (some ⟨g,o,none⟩) todo.length c∧BK l w a cap wr todo mt g o c∧Hid (BF l p todo mt x [])∧mt.count false+todo.length≤l.length+1) (fun t _ _ _ _ wr=>ap3 wr (w.heap.size+1)+a7s t)
 case atStart=>exact⟨[p],_,p,_,_,_,rfl,hk0,BF.start l p p,by simp⟩
 case round=>
  obtain⟨todo,mt,x,g,o,c,rfl,hk,HB,hcnt⟩:=hrel
  cases todo with
  | nil=>
   have HN:=BF.none HB.out
   have hbw:=hk.below
   go_wp2_with fail
   go_ret
   exact⟨⟨false,rfl,by simp[HN]⟩,hbw⟩
  | cons z ts=>
   have hhead:=hk.tr.head
   have hbox:=hk.box.cell 0
   have hszr:=hk.sz
   have hglt:=hk.tr.lt
   have hcl:=hk.tr.le
   simp only[List.length_cons] at hcnt hcl⊢
   have hHB:Hid (BF l p ts mt z (aal l z)):=BF.pop HB.out
   have s0:(wr.drew.cell? ⟨w.heap.size,0,none⟩=some (.slice a l.length cap)∧wr.drew.cell? ⟨g,o,none⟩=some (.int .i64 z))∧Below wr.heap.size wr wr.drew:=⟨⟨hbox,hhead⟩,(Below.refl _ _).drew⟩
   have HK:Hid (∀x y:World,((x.cell? ⟨w.heap.size,0,none⟩=some (.slice a l.length cap)∧x.cell? ⟨g,o,none⟩=some (.int .i64 z))∧Below wr.heap.size wr x)→Below wr.heap.size x y→((y.cell? ⟨w.heap.size,0,none⟩=some (.slice a l.length cap)∧y.cell? ⟨g,o,none⟩=some (.int .i64 z))∧Below wr.heap.size wr y)):=fun x y h1 h2=>
    ⟨⟨(h2.cell (p:=⟨w.heap.size,0,none⟩) (by show w.heap.size<_;omega)).trans h1.1.1,(h2.cell (p:=⟨g,o,none⟩) hglt).trans h1.1.2⟩,h1.2.trans h2⟩
   have HC:Hid (∀x:World,((x.cell? ⟨w.heap.size,0,none⟩=some (.slice a l.length cap)∧x.cell? ⟨g,o,none⟩=some (.int .i64 z))∧Below wr.heap.size wr x)→Calls Tryz.prog 104 #[.agg #[.slice a l.length cap],.int .i64 z] x fun e w'=>ar9 l z n₀ x e w'):=fun x hx=>
    ah6 l hrise hll _ z n₀ x (by have:=hx.2.size;omega) (hin.below (hk.below.trans (hx.2.mono (by omega))) hn₀)
   have hgt0:decide ((0:Int)<((ts.length+1:Nat):Int))=true:=decide_eq_true (by omega)
   have hn0r:n₀≤wr.heap.size:=by omega
   clear HB hhead hbox
   go_upto_region 4 with fail
   go_cut [7] from 17 to 69 (fun v wx=>aut l n₀ z wr v wx)
   case first=>
    go_region_held (fun x=>(x.cell? ⟨w.heap.size,0,none⟩=some (.slice a l.length cap)∧x.cell? ⟨g,o,none⟩=some (.int .i64 z))∧Below wr.heap.size wr x) (first | exact s0 | assumption | exact HK.out _ _ (by assumption) (ady (by assumption) (by assumption)) | exact HK.out _ _ (by assumption) (aje (by assumption)) | exact HK.out _ _ (by assumption) (agt (Nat.le_refl _)) | exact HK.out _ _ (by assumption) (af7 (by first | exact Nat.le_refl _ | exact hb3.size)) | exact HK.out _ _ (by assumption) (abd (Nat.le_refl _))) ((go_at_call 104;refine(HC.out _ (by assumption)).mono ?_;rintro e w3 ⟨hb3,pa,pk,pc,rfl,hpi3⟩;try (have hq3:=ar2 hb3;obtain⟨⟨q0,q1,q2⟩,qf0,qf1,qf2⟩:=abm hq3)))
    all_goals go_wp2_with fail
    all_goals go_meet
    case rel=>first | exact ame hpi3 (Nat.le_trans hn0r hb3.size) hb3.size (by assumption) | exact amd hpi3 hn0r hq3 (by assumption)
    case rel=>first | exact ame hpi3 (Nat.le_trans hn0r hb3.size) hb3.size (by assumption) | exact amd hpi3 hn0r hq3 (by assumption)
   case rest=>
    obtain⟨bM,pa,pk,pc,rfl,hbM,hblk,hpi,hbc⟩:=hcut
    have hkc:=hk.old hbc
    have HHK:Hid (ap3 wr (w.heap.size+1)=mt.count false):=auy hk.met
    have hpk:pk=(aal l z).length:=by obtain⟨_,_,e⟩:=hpi.val;cases e;rfl
    have hpkl:=hpl z
    clear s0 HK HC hbc
    have hbM2:w.heap.size+2≤bM:=by omega
    clear hbM
    go_upto_region 5 with fail
    go_cut [6] from 17 to 69 (fun v wx=> ∃g o c,v=.slice (some ⟨g,o,none⟩) ts.length c∧BK l w a cap wx ts mt g o c∧wx=wc)
    case first=>
     by_cases hc1:c=1
     ·subst hc1
      have htl:ts=[]∧TR wc (w.heap.size+2) g o 0 []:=hkc.tr.tail1
      obtain⟨rfl,ht⟩:=htl
      go_wp2_with fail
      go_meet
      exact⟨g,o,0,rfl,⟨hkc.box,hkc.met,ht,hkc.below,hkc.sz⟩,rfl⟩
     ·have ht:=hkc.tr.tail hc1
      go_wp2_with fail
      go_meet
      exact⟨g,o+1,c-1,rfl,⟨hkc.box,hkc.met,ht,hkc.below,hkc.sz⟩,rfl⟩
    case rest=>
     obtain⟨g2,o2,c2,rfl,hk2,hwe⟩:=hcut
     subst hwe
     have hpi0:=hpi.back hk2.below hn₀
     have HHB:Hid (BF l p ts mt z (aal l z)):=hHB
     have HPK:Hid (pk=(aal l z).length):=hpk
     have hpk2:pk≤131072:=by omega
     clear hpi hHB hpk hkc hpkl hk hglt hcl hgt0 hszr hn0r
     generalize asf l z=cz at hblk
     generalize aal l z=ps at hpi0 HHB HPK
     go_wp2_with fail
     go_loopw [6,8,9,10] (fun t i _ _ wx=> ∃(td:List Int) (m2:List Bool) (g o c j:Nat),t=.slice (some ⟨g,o,none⟩) td.length c∧i=.int .i64 j∧j≤pk∧BK l w a cap wx td m2 g o c∧Hid (BF l p td m2 z (ps.drop j))∧m2.count false+td.length=mt.count false+ts.length∧Blk wx bM 153 #[.int .i64 z,.int .i64 cz,.slice pa pk pc]) (fun _ i _ _ _=>pk-(intOf i).toNat)
     case atStart=>exact⟨ts,mt,g2,o2,c2,0,rfl,rfl,by omega,hk2,by simpa using HHB,rfl,hblk⟩
     case round=>
      clear hk2 hblk
      obtain⟨td,m2,g,o,c,j,rfl,rfl,hj,hk,HB,hsum,hblk⟩:=hrel
      have hM2:_:=hblk.cell 2
      simp only[show (#[Value.int .i64 z,.int .i64 cz,.slice pa pk pc]:Array Value)[2]? =some (.slice pa pk pc) from rfl] at hM2
      by_cases hlt:j<pk
      ·have hltp:j<ps.length:=by rw[←HPK.out];exact hlt
       have hps:ps≠ []:=fun e=>by subst e;simp at hltp
       have hpr:Ints n₀ wr (.slice pa pk pc) ps:=hpi0.below hk.below hn₀
       obtain⟨b,off,hao,hnk,hblt,hcell⟩:=hpr.cell hps
       subst hao
       have hcj:=hcell j hltp
       rw[show ps[j]?.getD 0=ps[j] by simp[List.getElem?_eq_getElem hltp]] at hcj
       have hd:ps.drop j=ps[j]::ps.drop (j+1):=List.drop_eq_getElem_cons hltp
       have HB2:Hid (BF l p td m2 z (ps[j]::ps.drop (j+1))):=by rw[←hd];exact HB
       generalize ps[j]=q at hcj HB2
       clear HB hd hcell hnk hpr
       have hbw:=hk.below
       have hszr:=hk.sz
       by_cases hqp:q=p
       ·subst hqp
        have HL:=BF.found HB2.out
        have hqq:(q==q)=true:=by simp
        go_wp2_with fail
        go_ret
        exact⟨⟨true,rfl,by simp[HL]⟩,hbw⟩
       ·have hqq:(q==p)=false:=by simp[hqp]
        have s0:(wr.drew.cell? ⟨w.heap.size,0,none⟩=some (.slice a l.length cap)∧wr.drew.cell? ⟨bM,2,none⟩=some (.slice (some ⟨b,off,none⟩) pk pc)∧wr.drew.cell? ⟨b,off+j,none⟩=some (.int .i64 q))∧Below wr.heap.size wr wr.drew:=⟨⟨hk.box.cell 0,hM2,hcj⟩,(Below.refl _ _).drew⟩
        have hbMl:=hblk.lt
        have HK:Hid (∀x y:World,((x.cell? ⟨w.heap.size,0,none⟩=some (.slice a l.length cap)∧x.cell? ⟨bM,2,none⟩=some (.slice (some ⟨b,off,none⟩) pk pc)∧x.cell? ⟨b,off+j,none⟩=some (.int .i64 q))∧Below wr.heap.size wr x)→Below wr.heap.size x y→((y.cell? ⟨w.heap.size,0,none⟩=some (.slice a l.length cap)∧y.cell? ⟨bM,2,none⟩=some (.slice (some ⟨b,off,none⟩) pk pc)∧y.cell? ⟨b,off+j,none⟩=some (.int .i64 q))∧Below wr.heap.size wr y)):=fun x y h1 h2=>
         ⟨⟨(h2.cell (p:=⟨w.heap.size,0,none⟩) (by show w.heap.size<_;omega)).trans h1.1.1,(h2.cell (p:=⟨bM,2,none⟩) hbMl).trans h1.1.2.1,(h2.cell (p:=⟨b,off+j,none⟩) (by show b<_;omega)).trans h1.1.2.2⟩,h1.2.trans h2⟩
        have HC:Hid (∀x:World,((x.cell? ⟨w.heap.size,0,none⟩=some (.slice a l.length cap)∧x.cell? ⟨bM,2,none⟩=some (.slice (some ⟨b,off,none⟩) pk pc)∧x.cell? ⟨b,off+j,none⟩=some (.int .i64 q))∧Below wr.heap.size wr x)→Calls Tryz.prog 96 #[.agg #[.slice a l.length cap],.int .i64 q] x fun e w'=>asa l q x e w'):=fun x hx=>
         ag3 l hrise hll _ q n₀ x (by have:=hx.2.size;omega) (hin.below (hk.below.trans (hx.2.mono (by omega))) hn₀)
        go_upto_region 11 with fail
        go_cut [9,10] from 27 to 69 (fun u y wx=> ∃(k:Nat) (bb:Bool),u=.int .i64 k∧y=.bool bb∧((bb=true∧ ∃h:k<l.length,(l[k]).point=q)∨(bb=false∧ ∀i (h:i<l.length),(l[i]).point≠q))∧Below wr.heap.size wr wx)
        case first=>
         go_region_held (fun x=>(x.cell? ⟨w.heap.size,0,none⟩=some (.slice a l.length cap)∧x.cell? ⟨bM,2,none⟩=some (.slice (some ⟨b,off,none⟩) pk pc)∧x.cell? ⟨b,off+j,none⟩=some (.int .i64 q))∧Below wr.heap.size wr x) (first | exact s0 | assumption | exact HK.out _ _ (by assumption) (ady (by assumption) (by assumption))) ((go_at_call 96;refine(HC.out _ (by assumption)).mono ?_;rintro e w3 ⟨k,bb,hpa,rfl,hbb,hb3⟩))
         all_goals go_wp2_with fail
         all_goals go_meet
         case rel=>exact⟨k,bb,rfl,rfl,hbb,And.right (by assumption)⟩
        case rest=>
         obtain⟨k,bb,rfl,rfl,hbb,hbc⟩:=hcut
         have hkc:=hk.old hbc
         have hblkc:=hblk.old hbc
         have hM2c:wc.cell? ⟨bM,2,none⟩=some (.slice (some ⟨b,off,none⟩) pk pc):=(hbc.cell (p:=⟨bM,2,none⟩) hbMl).trans hM2
         have hcjc:wc.cell? ⟨b,off+j,none⟩=some (.int .i64 q):=(hbc.cell (p:=⟨b,off+j,none⟩) (by show b<_;omega)).trans hcj
         clear s0 HK HC hk hblk hM2 hcj
         rcases hbb with ⟨rfl,hkl,hkq⟩ | ⟨rfl,hno⟩
         ·obtain⟨bv,hbv⟩: ∃bv,m2[k]? =some bv:=⟨_,List.getElem?_eq_getElem (by rw[HB2.out.len];exact hkl)⟩
          have hmc:wc.cell? ⟨w.heap.size+1,k,none⟩=some (.bool bv):=(hkc.met.cell k).trans (a4z hbv)
          have hmf:wc.frozen? ⟨w.heap.size+1,k,none⟩=false:=hkc.met.frozen k
          cases bv with
          | true=>
           have HB3:Hid (BF l p td m2 z (ps.drop (j+1))):=BF.pass HB2.out hqp fun i hi e=>by
            have:i=k:=by
             rcases Nat.lt_trichotomy i k with h1 | h1 | h1
             ·have:=ag0 hrise hi hkl h1;omega
             ·exact h1
             ·have:=ag0 hrise hkl hi h1;omega
            rw[this];exact hbv
           clear hkq
           go_wp2_with fail
           go_roundw
           case rel=>exact⟨td,m2,g,o,c,j+1,rfl,by go_num,by omega,hkc,HB3,hsum,hblkc⟩
           case measure=>simp only[intOf];omega
          | false=>
           have HB3:Hid (BF l p (td++[q]) (m2.set k true) z (ps.drop (j+1))):=BF.meet hrise HB2.out hqp hkl hkq
           have hct:=a1k hbv
           have hkm:=hkc.mark k
           have hblkm:Blk (wc.setCell ⟨w.heap.size+1,k,none⟩ (.bool true)) bM 153 _:=(Below.heap_setCell wc ⟨w.heap.size+1,k,none⟩ _ bM (by show bM≠w.heap.size+1;omega)).trans hblkc
           have hcjm:(wc.setCell ⟨w.heap.size+1,k,none⟩ (.bool true)).cell? ⟨b,off+j,none⟩=some (.int .i64 q):=(((Below.refl w.heap.size wc).setCell (p:=⟨w.heap.size+1,k,none⟩) (by show w.heap.size≤w.heap.size+1;omega) (.bool true)).cell (p:=⟨b,off+j,none⟩) (by show b<_;omega)).trans hcjc
           have hM2m:(wc.setCell ⟨w.heap.size+1,k,none⟩ (.bool true)).cell? ⟨bM,2,none⟩=some (.slice (some ⟨b,off,none⟩) pk pc):=hblkm.cell 2
           clear hkq
           go_upto_region 14 with fail
           clear hM2c hcjc hmc hmf hkc hblkc hbc
           generalize wc.setCell ⟨w.heap.size+1,k,none⟩ (.bool true)=wm at hkm hblkm hcjm hM2m⊢
           have hlen:td.length≤1099511627776:=by omega
           have hszm:=hkm.sz
           have htm:=hkm.tr
           go_wp2_with (first | (at_builtin;refine aim rfl _ _ rfl (w.heap.size+2) g o c td rfl htm q rfl hlen hszm ?_;intro g9 o9 c9 w9 ht9 hg9))
           have HK9:Hid (BK l w a cap w9 (td++[q]) (m2.set k true) g9 o9 c9):=hkm.put hg9 ht9
           have HB9:Hid (Blk w9 bM 153 #[.int .i64 z,.int .i64 cz,.slice (some ⟨b,off,none⟩) pk pc]):=by
            have h1:=hblkm.old ((Below.refl wm.heap.size wm).alloc (Nat.le_refl _) (.cells #[.int .i64 q] 3))
            refine(hg9.block bM h1.lt fun e=> ?_).trans h1
            cases e
            obtain⟨cur,h2,_⟩:=htm.blk
            have h3:=(show wm.heap[bM]? =_ from hblkm).symm.trans h2
            simp only[Option.some.injEq,Obj.cells.injEq] at h3
            exact absurd h3.2.1 (by decide)
           clear hg9 ht9
           try go_wp2_with fail
           go_roundw
           case rel=>exact⟨td++[q],m2.set k true,g9,o9,c9,j+1,by rw[List.length_append];rfl,by go_num,by omega,HK9.out,HB3,by rw[List.length_append,List.length_singleton];omega,HB9.out⟩
           case measure=>simp only[intOf];omega
         ·have HB3:Hid (BF l p td m2 z (ps.drop (j+1))):=BF.pass HB2.out hqp fun i hi e=>absurd e (hno i hi)
          clear hno
          go_wp2_with fail
          go_roundw
          case rel=>exact⟨td,m2,g,o,c,j+1,rfl,by go_num,by omega,hkc,HB3,hsum,hblkc⟩
          case measure=>simp only[intOf];omega
      ·have hdr:ps.drop j=[]:=List.drop_of_length_le (by rw[←HPK.out];omega)
       have HB2:Hid (BF l p td m2 z []):=by rw[←hdr];exact HB
       have HU:Hid (ap3 wr (w.heap.size+1)=m2.count false):=auy hk.met
       go_wp2_with fail
       go_roundw
       case rel=>exact⟨td,m2,z,g,o,c,rfl,hk,HB2,by omega⟩
       case measure=>
        simp only[a7s]
        rw[HU.out,HHK.out]
        omega
theorem ab2 {w:World}{ops:Array Oper}{rest:List Oper}{o:Oper}{a:Act}{Q:Exit→Act→World→Prop}(hgd:o.guard=none)(s x:Operand)
  (ho:o.op=.call {callee:=.builtin .append,args:= #[s,x],argTypes:= #[60,60]})
  (base:Nat) (v:Value) (n:Nat) (xs:List Value) (hs:a.eval s=v) (hown:w.ownsRow base 153 3 v n xs) (pa:Option Addr) (m pc:Nat) (news:List Value) (hx:a.eval x=.slice pa m pc) (hn:news.length=m*3)
  (hc:m≠0→ ∃ad,pa=some ad∧ ∀j u,news[j]? =some u→w.cell? (ad.add j)=some u) (h1: ∀u∈news,u.oneCell'=true) (hlen:n+m≤1048576) (hbase:base≤w.heap.size)
  (h: ∀a' c' w',w'.ownsRow base 153 3 (.slice a' (n+m) c') (n+m) (xs++news)→w.grownBy w' v.ownBlock→((Value.slice a' (n+m) c').ownBlock=v.ownBlock∨(Value.slice a' (n+m) c').ownBlock=some w.heap.size)→wpList Tryz.prog ops Q rest (a.put o.dst (.slice a' (n+m) c')) w'):
  wpList Tryz.prog ops Q (o::rest) a w:=by
 obtain⟨i,hi,hz,hsz,hby⟩:=info_parts a0l
 by_cases hm:m=0
 ·subst hm
  have hnil:news=[]:=List.eq_nil_of_length_eq_zero (by omega)
  subst hnil
  obtain⟨a',c',rfl⟩:=aax hown
  have hle:n≤c':=by
   by_cases h0:0<n
   ·obtain⟨_,_,e,h2,_⟩:=au3 hown h0
    cases e;exact h2
   ·omega
  have hr:(Builtin.append_ #[60,60] o.type #[.slice a' n c',.slice pa 0 pc]).run Tryz.prog w=.ok (.slice a' n c') w:=by
   cases pa with
   | none=>exact run_append_nothing (P:=Tryz.prog) w 60 60 o.type 153 i Tryz.underlying60 hi a' n c' hle _ (Src.ofNil w Tryz.underlying60 pc)
   | some ad=>exact run_append_nothing (P:=Tryz.prog) w 60 60 o.type 153 i Tryz.underlying60 hi a' n c' hle _ (Src.ofSlice w Tryz.underlying60 ad 0 pc [] (by simp) (by simp) (by simp))
  refine wpList_plain hgd fun K hK=> ?_
  unfold Oper.wp execOp
  simp only[ho,resolve,invoke,builtin,Sem.run_bind,Sem.run_pure,Result.andThen_ok,List.map_toArray,List.map_cons,List.map_nil,hs,hx,hr]
  have:=h a' c' w (by rw[List.append_nil];exact hown) (World.grownBy.refl _ _) (.inl rfl)
  exact hK _ _ this
 ·obtain⟨ad,rfl,hcell⟩:=hc hm
  refine wpList_append_own_at (P:=Tryz.prog) _ hgd s x 60 ho base 153 i _ 3 40 Tryz.underlying60 hi hz hsz hby rfl (by decide) v n xs hs hown ad m pc news hx hn hcell h1 ?_ ?_ ?_ ?_
  ·unfold maxLen;omega
  ·omega
  ·omega
  ·intro v' w' h1 h2 _ h4
   obtain⟨a',c',rfl⟩:=aax h1
   exact h a' c' w' h1 h2 h4
theorem awa (G:Int→List Int)(k:Nat)(p:Int):(whF G 18 k [] p).length≤19∧(18<(whF G 18 k [] p).length↔18<(wh G k p).length):=by
 rw[auv G 18 k [] p (by simp),List.nil_append,List.length_take]
 omega
theorem agf {t:List UInt8}{L:List Mk}(hlen:t.length≤65536)(hl:aar (aa3 10 t) 0 []=.ok L)(p:Int):(∀q∈aal (aag L) p,ab7 q=false)∧(aal (aag L) p).length≤131072:=by
 obtain⟨hok,hnd,_,hs,_⟩:=abc hlen hl
 rw[afj hnd]
 refine⟨fun q hq=> ?_,?_⟩
 ·obtain⟨m,hm,_,hq'⟩:=ae1 hq
  exact ah9 ((hok m hm).2.1 q hq')
 ·unfold aab
  cases hm:aau L p with
  | none=>simp
  | some m=>
   have:=aou (List.mem_of_find?_eq_some hm)
   simp
   omega
theorem as5 {t:List UInt8}{L:List Mk}(hlen:t.length≤65536)(hl:aar (aa3 10 t) 0 []=.ok L){m:Mk}(hm:m∈L):ab7 m.point=false:=ah9 ((abc hlen hl).1 m hm).1
theorem ano {L:List Mk}(p:Int):(∃i,∃h:i<(aag L).length,((aag L)[i]).point=p)↔L.any (fun m=>m.point==p)=true:=by
 have hmem:p∈(aag L).map PM.point↔p∈L.map Mk.point:=by rw[aem];exact(List.mergeSort_perm _ _).mem_iff
 constructor
 ·rintro⟨i,h,e⟩
  have:=hmem.1 (List.mem_map.2 ⟨_,List.getElem_mem h,e⟩)
  obtain⟨m,hm,e2⟩:=List.mem_map.1 this
  exact List.any_eq_true.2 ⟨m,hm,by simp[e2]⟩
 ·intro h
  obtain⟨m,hm,e⟩:=List.any_eq_true.1 h
  obtain⟨x,hx,e2⟩:=List.mem_map.1 (hmem.2 (List.mem_map.2 ⟨m,hm,by simpa using e⟩))
  obtain⟨i,hi,e3⟩:=List.mem_iff_getElem.1 hx
  exact⟨i,hi,by rw[e3];exact e2⟩
theorem aq1 {C:List (List UInt8)}{j:Nat}(hj:j<C.length){n:Int}{acc:List Mk}(h:aav C[j]=true):aar (C.drop j) n acc=aar (C.drop (j+1)) (n+1) acc:=by
 rw[List.drop_eq_getElem_cons hj,aar,if_pos h]
theorem aw8 {C:List (List UInt8)}{j:Nat}(hj:j<C.length){n:Int}{acc:List Mk}(h:aav C[j]=false)(hm:acj C[j]=none):aar (C.drop j) n acc=.error (40,n+1):=by
 rw[List.drop_eq_getElem_cons hj,aar,if_neg (by simp[h]),hm]
theorem atq {C:List (List UInt8)}{j:Nat}(hj:j<C.length){n p c:Int}{ps:List Int}{acc:List Mk}(h:aav C[j]=false)(hm:acj C[j]=some (p,c,ps))(ha:acc.any (fun m=>m.point==p)=true):aar (C.drop j) n acc=.error (41,n+1):=by
 rw[List.drop_eq_getElem_cons hj,aar,if_neg (by simp[h]),hm]
 simp only[ha,if_true]
theorem axa {C:List (List UInt8)}{j:Nat}(hj:j<C.length){n p c:Int}{ps:List Int}{acc:List Mk}(h:aav C[j]=false)(hm:acj C[j]=some (p,c,ps))(ha:acc.any (fun m=>m.point==p)=false)(hl:4096≤acc.length):aar (C.drop j) n acc=.error (2,n+1):=by
 rw[List.drop_eq_getElem_cons hj,aar,if_neg (by simp[h]),hm]
 simp only[ha]
 simp[hl]
theorem aw9 {C:List (List UInt8)}{j:Nat}(hj:j<C.length){n p c:Int}{ps:List Int}{acc:List Mk}(h:aav C[j]=false)(hm:acj C[j]=some (p,c,ps))(ha:acc.any (fun m=>m.point==p)=false)(hl:acc.length<4096):aar (C.drop j) n acc=aar (C.drop (j+1)) (n+1) (acc++[⟨n+1,p,c,ps⟩]):=by
 rw[List.drop_eq_getElem_cons hj,aar,if_neg (by simp[h]),hm]
 simp only[ha]
 simp[show ¬4096≤acc.length by omega]
theorem az3 {C:List (List UInt8)}{j:Nat}(hj:C.length≤j){n:Int}{acc:List Mk}:aar (C.drop j) n acc=.ok acc:=by
 rw[List.drop_of_length_le hj,aar]
structure LJ (w:World)(vl:Value)(C:List (List UInt8))(lp la:List Int)(l:List PM)(vp va vm:Value)(ps:List (PM×Value))(wr:World):Prop where
 res:Blk wr w.heap.size 62 #[.slice none 0 0]
 box:Blk wr (w.heap.size+1) 62 #[vm]
 lines:SOwn wr w.heap.size vl C
 points:IOwn wr w.heap.size vp lp
 ats:IOwn wr w.heap.size va la
 marks:wr.ownsRow w.heap.size 153 3 vm ps.length (abr ps)
 parts: ∀x∈ps,IOwn wr w.heap.size x.2 x.1.parts
 is:ps.map Prod.fst=l
 sepA:Apt vp va
 sepP: ∀x∈ps,Apt vp x.2∧Apt va x.2
 below:Below w.heap.size w wr
section
variable {w:World}{vl:Value}{C:List (List UInt8)}{lp la:List Int}{l:List PM}{vp va vm:Value}{ps:List (PM×Value)}{wr:World}
theorem LJ.go (h:LJ w vl C lp la l vp va vm ps wr){w':World}(hb:Below wr.heap.size wr w'):LJ w vl C lp la l vp va vm ps w' where
 res:=h.res.below hb h.res.lt
 box:=h.box.below hb h.box.lt
 lines:=aad h.lines hb
 points:=aad h.points hb
 ats:=aad h.ats hb
 marks:=aad h.marks hb
 parts:=fun x hx=>aad (h.parts x hx) hb
 is:=h.is
 sepA:=h.sepA
 sepP:=h.sepP
 below:=h.below.trans (hb.mono h.below.size)
theorem LJ.mown (h:LJ w vl C lp la l vp va vm ps wr):MOwn wr w.heap.size vm ps:=⟨h.marks,h.parts⟩
theorem LJ.min (h:LJ w vl C lp la l vp va vm ps wr):MIn wr.heap.size wr vm l:=by
 have:=h.mown.min
 rw[h.is] at this
 exact this
theorem LJ.point (h:LJ w vl C lp la l vp va vm ps wr){w':World}{vp':Value}{lp':List Int}(hg:wr.grownBy w' vp.ownBlock)(ho:IOwn w' w.heap.size vp' lp')(hat:vp'.ownBlock=vp.ownBlock∨vp'.ownBlock=some wr.heap.size):LJ w vl C lp' la l vp' va vm ps w' where
 res:=ahd h.res h.points (by decide) hg
 box:=ahd h.box h.points (by decide) hg
 lines:=acv h.lines hg (afb h.points h.lines (by decide))
 points:=ho
 ats:=acv h.ats hg h.sepA
 marks:=acv h.marks hg (afb h.points h.marks (by decide))
 parts:=fun x hx=>acv (h.parts x hx) hg (h.sepP x hx).1
 is:=h.is
 sepA:=fun g hg1 hg2=>by
  rcases hat with e | e
  ·exact h.sepA g (e.symm.trans hg1) hg2
  ·rw[e] at hg1
   have:=anf h.ats hg2
   simp at hg1
   omega
 sepP:=fun x hx=>⟨fun g hg1 hg2=>by
  rcases hat with e | e
  ·exact(h.sepP x hx).1 g (e.symm.trans hg1) hg2
  ·rw[e] at hg1
   have:=anf (h.parts x hx) hg2
   simp at hg1
   omega,(h.sepP x hx).2⟩
 below:=h.below.grown hg h.below.size (fun k hk=>(aan h.points hk).1)
theorem LJ.at (h:LJ w vl C lp la l vp va vm ps wr){w':World}{va':Value}{la':List Int}(hg:wr.grownBy w' va.ownBlock)(ho:IOwn w' w.heap.size va' la')(hat:va'.ownBlock=va.ownBlock∨va'.ownBlock=some wr.heap.size):LJ w vl C lp la' l vp va' vm ps w' where
 res:=ahd h.res h.ats (by decide) hg
 box:=ahd h.box h.ats (by decide) hg
 lines:=acv h.lines hg (afb h.ats h.lines (by decide))
 points:=acv h.points hg h.sepA.symm
 ats:=ho
 marks:=acv h.marks hg (afb h.ats h.marks (by decide))
 parts:=fun x hx=>acv (h.parts x hx) hg (h.sepP x hx).2
 is:=h.is
 sepA:=fun g hg1 hg2=>by
  rcases hat with e | e
  ·exact h.sepA g hg1 (e.symm.trans hg2)
  ·rw[e] at hg2
   have:=anf h.points hg1
   simp at hg2
   omega
 sepP:=fun x hx=>⟨(h.sepP x hx).1,fun g hg1 hg2=>by
  rcases hat with e | e
  ·exact(h.sepP x hx).2 g (e.symm.trans hg1) hg2
  ·rw[e] at hg1
   have:=anf (h.parts x hx) hg2
   simp at hg1
   omega⟩
 below:=h.below.grown hg h.below.size (fun k hk=>(aan h.ats hk).1)
theorem LJ.mark (h:LJ w vl C lp la l vp va vm ps wr){vm':Value}{ps':List (PM×Value)}{l':List PM}{b:Nat}(hr:wr.ownsRow b 153 3 vm' ps'.length (abr ps'))(hb:w.heap.size≤b)(hp: ∀x∈ps',IOwn wr w.heap.size x.2 x.1.parts∧Apt vp x.2∧Apt va x.2)(hl:ps'.map Prod.fst=l'):
  LJ w vl C lp la l' vp va vm' ps' (wr.setCell ⟨w.heap.size+1,0,none⟩ vm'):=by
 have hk: ∀ {b1:Nat} {e1:TypeId} {s1 k1:Nat} {v1:Value} {x1:List Value},e1≠62→wr.ownsRow b1 e1 s1 v1 k1 x1→(wr.setCell ⟨w.heap.size+1,0,none⟩ vm').ownsRow b1 e1 s1 v1 k1 x1:=fun ht h1=>adj h1 (fun g hg=>Below.heap_setCell wr ⟨w.heap.size+1,0,none⟩ _ g (by
  intro e
  have e':g=w.heap.size+1:=e
  subst e'
  obtain⟨_,c,f,q⟩:=aan h1 hg
  have:=q.symm.trans h.box
  simp only[Option.some.injEq,Obj.cells.injEq] at this
  exact ht this.2.1))
 refine⟨(Below.heap_setCell wr ⟨w.heap.size+1,0,none⟩ _ w.heap.size (by show w.heap.size≠w.heap.size+1;omega)).trans h.res,?_,hk (by decide) h.lines,hk (by decide) h.points,hk (by decide) h.ats,aai (hk (by decide) hr) hb,fun x hx=>hk (by decide) (hp x hx).1,hl,h.sepA,fun x hx=>(hp x hx).2,h.below.setCell (by show w.heap.size≤w.heap.size+1;omega) _⟩
 have:=h.box.set 0 vm'
 simpa using this
end
theorem abk {tmps:Array Value}{w:World}{h:Nat}{x a b:Value}(hb:Blk w h 62 #[x])(t2:tmps[2]?.getD undef=.pointer (some ⟨h,0,none⟩))(t3:tmps[3]?.getD undef=a)(t4:tmps[4]?.getD undef=b):
  (results Tryz.f52 tmps).run Tryz.prog w=.ok (.tuple #[.agg #[x],a,b]) w:=by
 have c0:w.cell? ⟨h,0,none⟩=some x:=hb.cell 0
 simp[results,Tryz.results52,go_sem,t2,t3,t4,c0]
theorem MIn.up {n₀ n:Nat}{x:World}{v:Value}{l:List PM}(hn:n₀≤n):MIn n₀ x v l→MIn n x v l
 | .inl e=>.inl e
 | .inr ⟨b,off,cap,e,hb,hc⟩=>.inr ⟨b,off,cap,e,Nat.lt_of_lt_of_le hb hn,fun j hj=>by
  obtain⟨pa,pk,pc,h1,h2,h3,h4⟩:=hc j hj
  exact⟨pa,pk,pc,h1,h2,h3,h4.mono hn⟩⟩
theorem MIn.go {x y:World}{v:Value}{l:List PM}(h:MIn x.heap.size x v l)(hb:Below x.heap.size x y):MIn y.heap.size y v l:=MIn.up hb.size (h.below hb (Nat.le_refl _))
theorem avj {t:List UInt8}{L:List Mk}{E:Int→List Int}(h:aaw t=.ok (L,E)):(L.map Mk.point).Nodup∧(aag L).length≤1048576:=by
 obtain⟨hlen,hl,_⟩:=acx h
 obtain⟨_,hnd,h4,_⟩:=abc hlen hl
 exact⟨hnd,by rw[adm];omega⟩
theorem as1 {t:List UInt8}{L:List Mk}{E:Int→List Int}(h:aaw t=.ok (L,E)){a:Option Addr}{n c:Nat}(q:Int){x:World}(hin:MIn x.heap.size x (.slice a n c) (aag L)):
  Calls Tryz.prog 56 #[.agg #[.slice a n c],.int .i64 q] x fun e w'=>e=.returned (.int .i64 (aaa L q))∧Below x.heap.size x w':=by
 obtain⟨hnd,hll⟩:=avj h
 have:=amr (aag L) (acl hnd) hll a n c q x.heap.size x (Nat.le_refl _) hin
 rw[axz hnd] at this
 exact this
theorem asr {t:List UInt8}{L:List Mk}{E:Int→List Int}(h:aaw t=.ok (L,E)){a:Option Addr}{n c:Nat}(q:Int)(hl57:(aa4 E q).length≤57){x:World}(hin:MIn x.heap.size x (.slice a n c) (aag L)):
  Calls Tryz.prog 55 #[.agg #[.slice a n c],.int .i64 q] x fun e w'=> ∃a n c,e=.returned (.slice a n c)∧IOwn w' x.heap.size (.slice a n c) (aa4 E q)∧Below x.heap.size x w':=by
 obtain⟨hlen,hl,_⟩:=acx h
 obtain⟨hnd,hll⟩:=avj h
 obtain⟨k,hdep,he⟩:=a4p h
 have:=aqg (aag L) (acl hnd) hll (fun p=>(agf hlen hl p).1) (fun p=>(agf hlen hl p).2) k (by rw[afj hnd];exact hdep) a n c x.heap.size q (by rw[aqs h he];omega) x (Nat.le_refl _) hin
 rw[aqs h he] at this
 exact this
theorem ag8 (a b:List (PM×Value)):abr (a++b)=abr a++abr b:=by simp[abr]
theorem arc {w:World}{base:Nat}{ps:List (PM×Value)}(h: ∀x∈ps,IOwn w base x.2 x.1.parts): ∀u∈abr ps,u.oneCell'=true:=fun u hu=>by
 obtain⟨x,hx,hu⟩:=List.mem_flatMap.1 hu
 obtain⟨a,c,e⟩:=(h x hx).val
 simp only[List.mem_cons,List.not_mem_nil,or_false] at hu
 rcases hu with rfl | rfl | rfl
 ·rfl
 ·rfl
 ·rw[e];rfl
theorem al0 {w:World}{base n mc g:Nat}{ps:List (PM×Value)}(h:w.ownsRow base 153 3 (.slice (some ⟨g,0,none⟩) n mc) ps.length (abr ps))(k0:Nat)(hk:k0≤ps.length):
  (∀j u,(abr (ps.take k0))[j]? =some u→w.cell? ((⟨g,0,none⟩:Addr).add j)=some u)∧(∀j u,(abr (ps.drop k0))[j]? =some u→w.cell? ((⟨g,k0*3,none⟩:Addr).add j)=some u)∧base≤g∧g<w.heap.size∧ps.length≤mc:=by
 rcases h.2 with ⟨e0,hz0⟩ | ⟨g',cap,cur,e,hb,hg,hc,hm,hs,htk⟩
 ·cases e0
 ·obtain⟨e1,_,rfl⟩:=Value.slice.inj e
  cases e1
  have hall: ∀j u,(abr ps)[j]? =some u→w.cell? ⟨g,j,none⟩=some u:=fun j u hu=>by
   rw[←htk] at hu
   have hj:=(List.getElem?_eq_some_iff.1 hu).1
   rw[List.getElem?_take_of_lt (by rw[List.length_take] at hj;omega)] at hu
   simp only[World.cell?,hg]
   simpa using hu
  have hsp:abr ps=abr (ps.take k0)++abr (ps.drop k0):=by rw[←ag8,List.take_append_drop]
  have hlt:(abr (ps.take k0)).length=k0*3:=by rw[alz,List.length_take];omega
  refine⟨fun j u hu=> ?_,fun j u hu=> ?_,hb,(Array.getElem?_eq_some_iff.1 hg).1,hc⟩
  ·rw[Go.WideShapes.add_plain,Nat.zero_add]
   refine hall j u ?_
   rw[hsp,List.getElem?_append_left (List.getElem?_eq_some_iff.1 hu).1]
   exact hu
  ·rw[show (⟨g,k0*3,none⟩:Addr).add j=⟨g,k0*3+j,none⟩ by simp[Addr.add]]
   refine hall (k0*3+j) u ?_
   rw[hsp,List.getElem?_append_right (by omega),hlt,Nat.add_sub_cancel_left]
   exact hu
theorem LJ.fin {w:World}{vl:Value}{C:List (List UInt8)}{lp la:List Int}{l:List PM}{vp va vm:Value}{ps:List (PM×Value)}{wr:World}(h:LJ w vl C lp la l vp va vm ps wr)(v:Value):MIn (wr.setCell ⟨w.heap.size,0,none⟩ v).heap.size (wr.setCell ⟨w.heap.size,0,none⟩ v) vm l:=by
 have hk: ∀ {b1:Nat} {e1:TypeId} {s1 k1:Nat} {v1:Value} {x1:List Value},e1≠62→wr.ownsRow b1 e1 s1 v1 k1 x1→(wr.setCell ⟨w.heap.size,0,none⟩ v).ownsRow b1 e1 s1 v1 k1 x1:=fun ht h1=>adj h1 (fun g hg=>Below.heap_setCell wr ⟨w.heap.size,0,none⟩ _ g (by
  intro e
  have e':g=w.heap.size:=e
  subst e'
  obtain⟨_,c,f,q⟩:=aan h1 hg
  have:=q.symm.trans h.res
  simp only[Option.some.injEq,Obj.cells.injEq] at this
  exact ht this.2.1))
 have hm:MOwn (wr.setCell ⟨w.heap.size,0,none⟩ v) w.heap.size vm ps:=⟨hk (by decide) h.marks,fun x hx=>hk (by decide) (h.parts x hx)⟩
 have:=hm.min
 rw[h.is] at this
 exact this
end Go.Proofs.YtfhpgmlfgjfknaaGreatDoor
