/- Contracts and lemmas (nothing is claimed here). -/
import Derived.Test.YtfhpgmlfgjfknaaGreatDoorJ14
import Derived.DeepKeys5
namespace Go.Proofs.YtfhpgmlfgjfknaaGreatDoor
open Go.RowKit Go.Vf Go.Maps
theorem aiv {tmps:Array Value}{w:World}{b:Nat}{a0 a1 a2 a3 a4 a5 a6 a7 v:Value}(h:Blk w b 162 #[a0,a1,a2,a3,a4,a5,a6,a7])(t2:tmps[2]?.getD undef=.pointer (some ⟨b,0,none⟩))(t3:tmps[3]?.getD undef=v):
  (results Tryz.f135 tmps).run Tryz.prog w=.ok (.tuple #[.agg #[a0,a1,a2,a3,a4,a5,a6,a7],v]) w:=by
 obtain⟨c0,c1,c2,c3,c4,c5,c6,c7,_⟩:=h.c8
 simp[results,Tryz.results135,go_sem,t2,t3,c0,c1,c2,c3,c4,c5,c6,c7]
theorem agb {tmps:Array Value}{w:World}{b:Nat}{a0 a1 a2 a3 a4 a5 a6 a7 u v:Value}(h:Blk w b 162 #[a0,a1,a2,a3,a4,a5,a6,a7])(t2:tmps[2]?.getD undef=.pointer (some ⟨b,0,none⟩))(t3:tmps[3]?.getD undef=u)(t4:tmps[4]?.getD undef=v):
  (results Tryz.f91 tmps).run Tryz.prog w=.ok (.tuple #[.agg #[a0,a1,a2,a3,a4,a5,a6,a7],u,v]) w:=by
 obtain⟨c0,c1,c2,c3,c4,c5,c6,c7,_⟩:=h.c8
 simp[results,Tryz.results91,go_sem,t2,t3,t4,c0,c1,c2,c3,c4,c5,c6,c7]
def anz:Option (List Int)→Value
 | some p=>.tuple #[ang (acu p),.bool true]
 | none=>.tuple #[ang ahy,.bool false]
theorem a38 (zs:List Int):avr zs=anz (if adp zs then some zs else none):=by
 unfold avr
 cases adp zs<;>rfl
theorem alx (o:Option (List Int))(ho: ∀p,o=some p→p.length≤8): ∃a0 a1 a2 a3 a4 a5 a6 a7:Int,anz o=.tuple #[.agg #[.int .i64 a0,.int .i64 a1,.int .i64 a2,.int .i64 a3,.int .i64 a4,.int .i64 a5,.int .i64 a6,.int .i64 a7],.bool o.isSome]:=by
 cases o with
 | none=>exact⟨0,0,0,0,0,0,0,0,rfl⟩
 | some p=>
  obtain⟨a0,a1,a2,a3,a4,a5,a6,a7,h⟩:=arq (ael (ho p rfl))
  refine⟨a0,a1,a2,a3,a4,a5,a6,a7,?_⟩
  show Value.tuple #[.agg (rc (acu p)),.bool true]=_
  rw[h];rfl
theorem abf {p:List Int}(h:adp p=true):1≤p.length∧p.length≤8:=by
 unfold adp at h
 simp only[Bool.and_eq_true,decide_eq_true_eq] at h
 exact h.1
set_option maxHeartbeats 2000000 in
set_option maxRecDepth 20000 in
theorem as0 (s:ByteArray)(m:Int)(w:World)(hs:s.size≤65536)(hm:w.cell? ⟨2,0,none⟩=some (.int .i64 m)):
  Calls Tryz.prog 135 #[.string s] w fun e w'=>e=.returned (anz (aij s.data.toList))∧Below w.heap.size w w':=by
 have hsl:s.data.toList.length=s.size:=(Lib.size_eq s).symm
 have hlt0:2<w.heap.size:=World.block_lt_of_cell? w _ hm
 have hcl:=abl 32 s.data.toList
 have hcs:=abj 32 s.data.toList
 have hsp:=fun(W:World)=>ad3 32 s m W hs
 have hR:aij s.data.toList=match asc (aa3 32 s.data.toList) with
  | none=>none
  | some l=>if adp l then some l else none:=rfl
 generalize aij s.data.toList=R at hR⊢
 generalize aa3 32 s.data.toList=C at hcl hcs hsp hR
 have HR:Hid (R=match asc C with
  | none=>none
  | some l=>if adp l then some l else none):=hR
 clear hR
 have hB0:=Blk.new w 162 #[.int .i64 0,.int .i64 0,.int .i64 0,.int .i64 0,.int .i64 0,.int .i64 0,.int .i64 0,.int .i64 0]
 have hbel:=(Below.refl w.heap.size w).alloc (Nat.le_refl _) (.cells #[.int .i64 0,.int .i64 0,.int .i64 0,.int .i64 0,.int .i64 0,.int .i64 0,.int .i64 0,.int .i64 0] 162)
 have hm1:=(hbel.cell (p:=⟨2,0,none⟩) hlt0).trans hm
 go_enter Tryz.func135,Tryz.ntmps135
 go_upto_region 2 with fail
 generalize hW:(w.alloc (.cells #[.int .i64 0,.int .i64 0,.int .i64 0,.int .i64 0,.int .i64 0,.int .i64 0,.int .i64 0,.int .i64 0] 162))=W at hB0 hbel hm1⊢
 clear hW
 have hwW:=hB0.lt
 go_wp2_with fail
 refine(hsp W hm1).mono ?_
 rintro _ w1 ⟨rfl,hst,hb1,hsz1⟩
 have hbw1:Below w.heap.size w w1:=hbel.trans (hb1.mono (by omega))
 have hB1:=hB0.below hb1 hwW
 have hW1:W.heap.size<w1.heap.size:=by omega
 clear hsz1 hB0 hbel hb1 hsp
 go_wp2_with fail
 go_loopw [4,12] (fun v i wr=> ∃(k:Nat) (acc:List Int),k≤C.length∧i=.int .i64 k∧IOwn wr w1.heap.size v acc∧acc.length=k∧Hid (R=match (asc (C.drop k)).map (acc++ ·) with
  | none=>none
  | some l=>if adp l then some l else none)∧Below w1.heap.size w1 wr∧w1.heap.size≤wr.heap.size) (fun _ i _=>C.length-(intOf i).toNat)
 case atStart=>exact⟨0,[],by omega,rfl,IOwn.nil _ _,rfl,by show _=_;rw[HR.out];simp,Below.refl _ _,Nat.le_refl _⟩
 case round=>
  clear HR
  obtain⟨k,acc,hk,rfl,hown,hal,HK,hbel,hsz⟩:=hrel
  have hbel0:Below w.heap.size w wr:=hbw1.trans (hbel.mono hbw1.size)
  have hBr:Blk wr w.heap.size 162 #[.int .i64 0,.int .i64 0,.int .i64 0,.int .i64 0,.int .i64 0,.int .i64 0,.int .i64 0,.int .i64 0]:=hB1.below hbel (by omega)
  by_cases hlt:k<C.length
  ·have hd:C.drop k=C[k]::C.drop (k+1):=List.drop_eq_getElem_cons hlt
   have hck:=(hst.below hbel (by omega)).cell hlt
   have hkl:=hcs C[k] (List.getElem_mem hlt)
   have hrp:=fun w=>ams (bsz C[k]) w (by simp[ByteArray.size];omega)
   rw[show (bsz C[k]).data.toList=C[k] by simp] at hrp
   have HK1:Hid (R=match (asc (C[k]::C.drop (k+1))).map (acc++ ·) with
    | none=>none
    | some l=>if adp l then some l else none):=by show _=_;rw[←hd];exact HK.out
   clear hd HK hkl
   generalize bsz C[k]=t at hck hrp
   generalize C[k]=c at hrp HK1
   cases hp:ptR c with
   | none=>
    have hRn:R=none:=by rw[HK1.out,asc,hp];rfl
    rw[hp] at hrp
    simp only[a74] at hrp
    have hz8:=hBr.set8 rfl (.int .i64 0) (.int .i64 0) (.int .i64 0) (.int .i64 0) (.int .i64 0) (.int .i64 0) (.int .i64 0) (.int .i64 0)
    have hzb:=adx hbel0 (Nat.le_refl w.heap.size) (.int .i64 0) (.int .i64 0) (.int .i64 0) (.int .i64 0) (.int .i64 0) (.int .i64 0) (.int .i64 0) (.int .i64 0)
    obtain⟨d0,d1,d2,d3,d4,d5,d6,d7,df⟩:=hBr.c8
    have f0':=df 0
    have f1':=df 1
    have f2':=df 2
    have f3':=df 3
    have f4':=df 4
    have f5':=df 5
    have f6':=df 6
    have f7':=df 7
    clear HK1 hp df hBr
    go_wp2_with fail
    refine(hrp _).mono ?_
    rintro _ w2 ⟨rfl,rfl⟩
    go_wp2_with fail
    refine bodyPost_ret (aiv hz8 rfl rfl) rfl ?_
    exact⟨by rw[hRn];rfl,hzb⟩
   | some q=>
    rw[hp] at hrp
    simp only[a74] at hrp
    have HK2:Hid (R=match (asc (C.drop (k+1))).map ((acc++[q])++ ·) with
     | none=>none
     | some l=>if adp l then some l else none):=by
     show _=_
     rw[HK1.out,asc,hp]
     cases asc (C.drop (k+1))<;>simp
    clear HK1 hp hBr
    go_wp2_with fail
    refine(hrp _).mono ?_
    rintro _ w2 ⟨rfl,rfl⟩
    go_wp2_with (first | (at_builtin;refine aao rfl _ _ rfl w1.heap.size _ acc rfl (World.ownsRow.alloc hown _) [q] ⟨wr.heap.size,0,none⟩ 1 rfl (aku q wr) (by simp;omega) (by simp;omega) ?_;intro a' c' w3 hown3 hgr3 _ _))
    have hb3:Below w1.heap.size wr w3:=((Below.refl _ wr).alloc hsz _).grown hgr3 (by simp;omega) (fun j hj=>(aan hown hj).1)
    have hs3:=hgr3.size
    go_wp2
    go_roundw
    case rel=>exact⟨k+1,acc++[q],by omega,by simp,by first | exact hown3 | (rw[hal] at hown3;exact hown3),by simp[hal],HK2,hbel.trans hb3,by simp at hs3;omega⟩
    case measure=>simp only[intOf];omega
  ·have hRs:R=if adp acc then some acc else none:=by rw[HK.out,List.drop_of_length_le (by omega)];simp[asc]
   have hro:=alc wr.heap.size _ acc wr (Nat.le_refl _) hown.ints (by omega)
   rw[a38,←hRs] at hro
   obtain⟨a0,a1,a2,a3,a4,a5,a6,a7,hg⟩:=alx R (fun p hp=>by
    rw[hRs] at hp
    split at hp
    ·rename_i hb;cases hp;exact(abf hb).2
    ·cases hp)
   rw[hg] at hro
   have HG:Hid (anz R=.tuple #[.agg #[.int .i64 a0,.int .i64 a1,.int .i64 a2,.int .i64 a3,.int .i64 a4,.int .i64 a5,.int .i64 a6,.int .i64 a7],.bool R.isSome]):=hg
   generalize R.isSome=rb at hro HG
   obtain⟨av,cv,rfl⟩:=hown.val
   clear HK hRs hg hal
   go_wp2_with fail
   refine hro.mono ?_
   rintro _ w2 ⟨rfl,hb2⟩
   have hbz:Below w.heap.size w w2:=hbel0.trans (hb2.mono hbel0.size)
   have hBz:Blk w2 w.heap.size 162 #[.int .i64 0,.int .i64 0,.int .i64 0,.int .i64 0,.int .i64 0,.int .i64 0,.int .i64 0,.int .i64 0]:=hBr.below hb2 hBr.lt
   have hz8:=hBz.set8 rfl (.int .i64 a0) (.int .i64 a1) (.int .i64 a2) (.int .i64 a3) (.int .i64 a4) (.int .i64 a5) (.int .i64 a6) (.int .i64 a7)
   have hzb:=adx hbz (Nat.le_refl w.heap.size) (.int .i64 a0) (.int .i64 a1) (.int .i64 a2) (.int .i64 a3) (.int .i64 a4) (.int .i64 a5) (.int .i64 a6) (.int .i64 a7)
   obtain⟨d0,d1,d2,d3,d4,d5,d6,d7,df⟩:=hBz.c8
   have f0':=df 0
   have f1':=df 1
   have f2':=df 2
   have f3':=df 3
   have f4':=df 4
   have f5':=df 5
   have f6':=df 6
   have f7':=df 7
   clear df hBr hBz
   go_wp2_with fail
   refine bodyPost_ret (aiv hz8 rfl rfl) rfl ?_
   exact⟨by rw[HG.out];rfl,hzb⟩
def a67 (w:World)(r:Option Ent)(e:Ending)(w':World):Prop:=
 Below w.heap.size w w'∧match r with
 | none=> ∃a0 a1 a2 a3 a4 a5 a6 a7:Int,e=.returned (.tuple #[.agg #[.int .i64 a0,.int .i64 a1,.int .i64 a2,.int .i64 a3,.int .i64 a4,.int .i64 a5,.int .i64 a6,.int .i64 a7],.slice none 0 0,.bool false])
 | some x=> ∃a n cap,e=.returned (.tuple #[ang (acu x.1),.slice a n cap,.bool true])∧EOwn w' w.heap.size (.slice a n cap) x.2
theorem a3e {w:World}{base:Nat}{e:TypeId}{size:Nat}{v:Value}{k b:Nat}{xs:List Value}(h:w.ownsRow base e size v k xs)(hb:b<base)(a0 a1 a2 a3 a4 a5 a6 a7:Value):
  ((((((((w.setCell ⟨b,0,none⟩ a0).setCell ⟨b,1,none⟩ a1).setCell ⟨b,2,none⟩ a2).setCell ⟨b,3,none⟩ a3).setCell ⟨b,4,none⟩ a4).setCell ⟨b,5,none⟩ a5).setCell ⟨b,6,none⟩ a6).setCell ⟨b,7,none⟩ a7).ownsRow base e size v k xs:=
 aam (aam (aam (aam (aam (aam (aam (aam h (p:=⟨b,0,none⟩) hb _) (p:=⟨b,1,none⟩) hb _) (p:=⟨b,2,none⟩) hb _) (p:=⟨b,3,none⟩) hb _) (p:=⟨b,4,none⟩) hb _) (p:=⟨b,5,none⟩) hb _) (p:=⟨b,6,none⟩) hb _) (p:=⟨b,7,none⟩) hb _
def a8d (a:Option (List Int))(b:Option (List El)):Option Ent:=a.bind fun p=>b.map fun l=>(p,l)
theorem a8c (s:List UInt8):aee s=a8d (aij (aih 59 s).1) (aik (aih 59 s).2):=by
 unfold aee a8d
 cases aij (aih 59 s).1 with
 | none=>rfl
 | some p=>cases aik (aih 59 s).2<;>rfl
set_option maxHeartbeats 2000000 in
set_option maxRecDepth 20000 in
theorem ao5 (s:ByteArray)(m:Int)(w:World)(hs:s.size≤65536)(hm:w.cell? ⟨2,0,none⟩=some (.int .i64 m)):
  Calls Tryz.prog 91 #[.string s] w fun e w'=>a67 w (aee s.data.toList) e w':=by
 have hsl:s.data.toList.length=s.size:=(Lib.size_eq s).symm
 have hlt0:2<w.heap.size:=World.block_lt_of_cell? w _ hm
 have hl1:=a4s 59 s.data.toList
 have hcut:=fun(W:World)=>a6t s m W hs
 have hR:=a8c s.data.toList
 have hok: ∀x,aee s.data.toList=some x→x.1.length≤8:=fun x hx=>(abf (aub hx).1).2
 generalize aee s.data.toList=R at hR hok⊢
 generalize (aih 59 s.data.toList).1=L at hl1 hcut hR
 generalize (aih 59 s.data.toList).2=Rr at hl1 hcut hR
 have hrow:=fun(W:World)=>as0 (bsz L) m W (by simp[ByteArray.size];omega)
 have hels:=fun(W:World)=>akk (bsz Rr) m W (by simp[ByteArray.size];omega)
 rw[show (bsz L).data.toList=L by simp] at hrow
 rw[show (bsz Rr).data.toList=Rr by simp] at hels
 generalize bsz L=bl at hcut hrow
 generalize bsz Rr=br at hcut hels
 obtain⟨a0,a1,a2,a3,a4,a5,a6,a7,hg⟩:=alx (aij L) (fun p hp=>(abf (asu hp)).2)
 generalize aij L=RO at hR hrow hg
 generalize aik Rr=EO at hR hels
 rw[hg] at hrow
 have HG:Hid (anz RO=.tuple #[.agg #[.int .i64 a0,.int .i64 a1,.int .i64 a2,.int .i64 a3,.int .i64 a4,.int .i64 a5,.int .i64 a6,.int .i64 a7],.bool RO.isSome]):=hg
 clear hg
 have hB0:=Blk.new w 162 #[.int .i64 0,.int .i64 0,.int .i64 0,.int .i64 0,.int .i64 0,.int .i64 0,.int .i64 0,.int .i64 0]
 have hbel:=(Below.refl w.heap.size w).alloc (Nat.le_refl _) (.cells #[.int .i64 0,.int .i64 0,.int .i64 0,.int .i64 0,.int .i64 0,.int .i64 0,.int .i64 0,.int .i64 0] 162)
 have hm1:=(hbel.cell (p:=⟨2,0,none⟩) hlt0).trans hm
 have HR:Hid (R=a8d RO EO):=hR
 clear hR hl1
 go_enter Tryz.func91,Tryz.ntmps91
 go_upto_region 1 with fail
 generalize hW:(w.alloc (.cells #[.int .i64 0,.int .i64 0,.int .i64 0,.int .i64 0,.int .i64 0,.int .i64 0,.int .i64 0,.int .i64 0] 162))=W at hB0 hbel hm1⊢
 clear hW
 have hwW:=hB0.lt
 go_wp2_with fail
 refine(hcut W hm1).mono ?_
 rintro _ w1 ⟨fb,rfl,hb1⟩
 have hbw1:Below w.heap.size w w1:=hbel.trans (hb1.mono (by omega))
 have hB1:=hB0.below hb1 hwW
 have hm2:=(hbw1.cell (p:=⟨2,0,none⟩) hlt0).trans hm
 clear hB0 hbel hb1 hcut hm1
 go_wp2_with fail
 refine(hrow w1 hm2).mono ?_
 rintro _ w2 ⟨rfl,hb2⟩
 have hbw2:Below w.heap.size w w2:=hbw1.trans (hb2.mono hbw1.size)
 have hB2:=hB1.below hb2 hB1.lt
 have hBn:=Blk.new w2 162 #[.int .i64 a0,.int .i64 a1,.int .i64 a2,.int .i64 a3,.int .i64 a4,.int .i64 a5,.int .i64 a6,.int .i64 a7]
 have hbw3:=hbw2.alloc hbw2.size (.cells #[.int .i64 a0,.int .i64 a1,.int .i64 a2,.int .i64 a3,.int .i64 a4,.int .i64 a5,.int .i64 a6,.int .i64 a7] 162)
 have hB3:Blk (w2.alloc (.cells #[.int .i64 a0,.int .i64 a1,.int .i64 a2,.int .i64 a3,.int .i64 a4,.int .i64 a5,.int .i64 a6,.int .i64 a7] 162)) w.heap.size 162 _:=(Below.heap_alloc _ _ _ hB2.lt).trans hB2
 have hm3:=(hbw3.cell (p:=⟨2,0,none⟩) hlt0).trans hm
 have hlt2:=hB2.lt
 clear hbw1 hB1 hm2 hb2 hrow hbw2 hB2
 cases hRO:RO with
 | none=>
  have hRn:R=none:=by rw[HR.out,hRO];rfl
  clear hRO HR HG
  simp only[Option.isSome]
  go_upto_region 3 with fail
  generalize hW:(w2.alloc (.cells #[.int .i64 a0,.int .i64 a1,.int .i64 a2,.int .i64 a3,.int .i64 a4,.int .i64 a5,.int .i64 a6,.int .i64 a7] 162))=W3 at hBn hbw3 hB3 hm3⊢
  have hz8:=hB3.set8 rfl (.int .i64 0) (.int .i64 0) (.int .i64 0) (.int .i64 0) (.int .i64 0) (.int .i64 0) (.int .i64 0) (.int .i64 0)
  have hzb:=adx hbw3 (Nat.le_refl w.heap.size) (.int .i64 0) (.int .i64 0) (.int .i64 0) (.int .i64 0) (.int .i64 0) (.int .i64 0) (.int .i64 0) (.int .i64 0)
  obtain⟨d0,d1,d2,d3,d4,d5,d6,d7,df⟩:=hB3.c8
  have f0':=df 0
  have f1':=df 1
  have f2':=df 2
  have f3':=df 3
  have f4':=df 4
  have f5':=df 5
  have f6':=df 6
  have f7':=df 7
  clear df hB3 hW
  go_wp2_with fail
  refine bodyPost_ret (agb hz8 rfl rfl rfl) rfl ?_
  exact⟨hzb,by rw[hRn];exact⟨_,_,_,_,_,_,_,_,rfl⟩⟩
 | some p=>
  have hRp:R=a8d (some p) EO:=by rw[HR.out,hRO]
  have hpad:Hid (ang (acu p)=.agg #[.int .i64 a0,.int .i64 a1,.int .i64 a2,.int .i64 a3,.int .i64 a4,.int .i64 a5,.int .i64 a6,.int .i64 a7]):=by
   have h:=HG.out
   rw[hRO] at h
   unfold anz at h
   simp only[Value.tuple.injEq,Array.mk.injEq,List.cons.injEq] at h
   exact h.1
  have HRp:Hid (R=a8d (some p) EO):=hRp
  clear hRO HR HG hRp
  simp only[Option.isSome]
  go_upto_region 3 with fail
  generalize hW:(w2.alloc (.cells #[.int .i64 a0,.int .i64 a1,.int .i64 a2,.int .i64 a3,.int .i64 a4,.int .i64 a5,.int .i64 a6,.int .i64 a7] 162))=W3 at hBn hbw3 hB3 hm3⊢
  have hsz3:w2.heap.size<W3.heap.size:=hBn.lt
  clear hW
  go_wp2_with fail
  refine(hels W3 hm3).mono ?_
  rintro _ w4 ⟨hb4,hpost⟩
  have hbw4:Below w.heap.size w w4:=hbw3.trans (hb4.mono hbw3.size)
  have hB4:=hB3.below hb4 hB3.lt
  have hBn4:=hBn.below hb4 hBn.lt
  obtain⟨e0,e1,e2,e3,e4,e5,e6,e7,_⟩:=hBn4.c8
  have hz8:=hB4.set8 rfl (.int .i64 a0) (.int .i64 a1) (.int .i64 a2) (.int .i64 a3) (.int .i64 a4) (.int .i64 a5) (.int .i64 a6) (.int .i64 a7)
  have hzb:=adx hbw4 (Nat.le_refl w.heap.size) (.int .i64 a0) (.int .i64 a1) (.int .i64 a2) (.int .i64 a3) (.int .i64 a4) (.int .i64 a5) (.int .i64 a6) (.int .i64 a7)
  have hz9:=adx (Below.refl w.heap.size w4) (Nat.le_refl w.heap.size) (.int .i64 a0) (.int .i64 a1) (.int .i64 a2) (.int .i64 a3) (.int .i64 a4) (.int .i64 a5) (.int .i64 a6) (.int .i64 a7)
  obtain⟨d0,d1,d2,d3,d4,d5,d6,d7,df⟩:=hB4.c8
  have f0':=df 0
  have f1':=df 1
  have f2':=df 2
  have f3':=df 3
  have f4':=df 4
  have f5':=df 5
  have f6':=df 6
  have f7':=df 7
  have hne:w.heap.size≠w2.heap.size:=by omega
  have hne': ¬w2.heap.size=w.heap.size:=by omega
  cases EO with
  | none=>
   obtain rfl:=hpost
   have hRn:R=none:=HRp.out
   clear df hB3 hB4 hBn hBn4 hels HRp
   go_wp2_with fail
   refine bodyPost_ret (agb hz8 rfl rfl rfl) rfl ?_
   exact⟨hzb,by rw[hRn];exact⟨_,_,_,_,_,_,_,_,rfl⟩⟩
  | some l=>
   obtain⟨ae,ne,ce,rfl,hown⟩:=hpost
   have hRs:R=some (p,l):=HRp.out
   clear df hB3 hBn hBn4 hels HRp
   go_wp2_with fail
   refine bodyPost_ret (agb hz8 rfl rfl rfl) rfl ?_
   refine⟨hzb,?_⟩
   rw[hRs]
   refine⟨_,_,_,by rw[hpad.out];rfl,?_⟩
   exact aai (a3e hown (show w.heap.size<W3.heap.size by omega) _ _ _ _ _ _ _ _) (by omega)
theorem a8v:laidOutB Tryz.prog=true:=by kernel_rfl
theorem a7m:(162:TypeId)<Tryz.prog.types.size:=of_decide_eq_true (by kernel_rfl)
theorem a7e:(match Tryz.prog.underlying 162 with | some (.array _ _) | some (.struct _)=>true | _=>false)=true:=by kernel_rfl
theorem a9c:Tryz.prog.keyTypeAt 2 162=true:=by kernel_rfl
theorem a7t {P:Program}(h:laidOutB P=true){k:TypeId}(hr:k<P.types.size)(ht:P.keyTypeAt 2 k=true)(hw:(match P.underlying k with | some (.array _ _) | some (.struct _)=>true | _=>false)=true):WideMaps.KeyLaw P k:=deep_law_laid h (m:=2) (by omega) hr ht hw
theorem a54 {a n:Nat}(h:a<n): ∃m,n=m+1:=⟨n-1,by omega⟩
theorem a8t:WideMaps.KeyLaw Tryz.prog 162:=a7t a8v a7m a9c a7e
theorem keyed73:Keyed Tryz.prog 162:=Keyed.of_law a8t
theorem apv:Tryz.prog.cellsOf 162=8:=by kernel_rfl
theorem cells3:Tryz.prog.cellsOf 3=1:=by kernel_rfl
theorem a0a:Tryz.prog.keyType 162=true:=by kernel_rfl
theorem a5b: ∃m,Tryz.prog.types.size=m+1:=a54 a7m
def ako (l:List Int):Prop:=l.length=8∧ ∀x∈l,InI x
theorem ap2 {x:Int}(h:InI x):(Lit.int .i64 x).wf=true:=by obtain⟨h1,h2⟩:=h;exact WalkArith.wf_i64 (by omega)
theorem a3s {l:List Int}(h:ako l): ∃kl,keyOf Tryz.prog 162 (ang l)=some kl:=by
 obtain⟨h8,hx⟩:=h
 obtain⟨a0,a1,a2,a3,a4,a5,a6,a7,rfl⟩:=arq h8
 have w0:=ap2 (hx a0 (by simp))
 have w1:=ap2 (hx a1 (by simp))
 have w2:=ap2 (hx a2 (by simp))
 have w3:=ap2 (hx a3 (by simp))
 have w4:=ap2 (hx a4 (by simp))
 have w5:=ap2 (hx a5 (by simp))
 have w6:=ap2 (hx a6 (by simp))
 have w7:=ap2 (hx a7 (by simp))
 obtain⟨m,hm⟩:=a5b
 refine⟨.string (keyBytes [.int .i64 a0,.int .i64 a1,.int .i64 a2,.int .i64 a3,.int .i64 a4,.int .i64 a5,.int .i64 a6,.int .i64 a7]),?_⟩
 show keyOf Tryz.prog 162 (.agg #[.int .i64 a0,.int .i64 a1,.int .i64 a2,.int .i64 a3,.int .i64 a4,.int .i64 a5,.int .i64 a6,.int .i64 a7])=_
 unfold keyOf
 simp only[Tryz.underlying162]
 rw[if_pos (by simp[a0a,Value.formed,Tryz.underlying162,apv]),hm]
 unfold Program.keyLits
 simp only[Tryz.underlying162,Value.cells]
 rw[if_pos (by rw[apv];rfl),show List.range 8=[0,1,2,3,4,5,6,7] from rfl]
 simp only[List.mapM_cons,List.mapM_nil]
 simp[cells3,Program.keyLits,Tryz.underlying3,w0,w1,w2,w3,w4,w5,w6,w7]
theorem au5 {a b:List Int}(h:ang a=ang b):a=b:=by
 unfold ang rc at h
 simp only[Value.agg.injEq,Array.mk.injEq] at h
 have:=congrArg (List.map (fun v=>match v with | Value.int _ z=>z | _=>0)) h
 simpa[List.map_map,Function.comp_def] using this
def MapR (w:World)(b n:Nat)(f:List Int→Option Value):Prop:=
 ∃D:DataW Value,w.ownsMap Tryz.prog 162 ax7 b n D∧Maps.size D=n∧ ∀l,ako l→ ∀kl,keyOf Tryz.prog 162 (ang l)=some kl→Maps.has D kl=(f l).isSome∧ ∀z,D.atKey kl (.held z)=.held ((f l).getD z)
section
variable {w:World}{b n:Nat}{f:List Int→Option Value}
theorem MapR.made (w:World):MapR (w.alloc (.map #[] 0)) w.heap.size 0 (fun _=>none):=⟨_,World.ownsMap_made w _ _ _,rfl,fun _ _ _ _=>⟨rfl,fun _=>rfl⟩⟩
theorem MapR.lt (h:MapR w b n f):b<w.heap.size:=let ⟨_,h,_⟩:=h;h.lt
theorem MapR.block {w':World}(h:MapR w b n f)(hg:w'.heap[b]? =w.heap[b]?):MapR w' b n f:=by
 obtain⟨D,⟨es,clock,hb,F,hs,hD⟩,h2⟩:=h
 exact⟨D,⟨es,clock,hg.trans hb,F,hs,hD⟩,h2⟩
theorem MapR.below {w':World}{B:Nat}(h:MapR w b n f)(hg:Below B w w')(hb:b<B):MapR w' b n f:=h.block (hg.block b hb)
theorem MapR.kept {w':World}{row:Option Nat}(h:MapR w b n f)(hg:w.grownBy w' row)(hne:some b≠row):MapR w' b n f:=let ⟨D,h,h2⟩:=h;⟨D,h.kept hg hne,h2⟩
theorem MapR.look_ok (h:MapR w b n f){z:Value}(hz:(zeroValue 71).run Tryz.prog w=.ok z w){l:List Int}(hl:ako l):
  (Instr.lookup 115 (.map (some b)) (ang l) true).run Tryz.prog w=.ok (.tuple #[(f l).getD z,.bool (f l).isSome]) w:=by
 obtain⟨D,hown,_,h2⟩:=h
 obtain⟨kl,hk⟩:=a3s hl
 obtain⟨v,ps,hrun,hv⟩:=hown.look_ok keyed73 Tryz.underlying115 hz (zd:=.held z) (zp:=[]) rfl hk
 rw[(h2 l hl kl hk).2 z] at hv
 simp only[ax7,Option.some.injEq,Prod.mk.injEq,DataW.held.injEq] at hv
 rw[hrun,hv.1,(h2 l hl kl hk).1]
theorem MapR.len (h:MapR w b n f)(ty:TypeId):(Builtin.len_ #[115] ty #[.map (some b)]).run Tryz.prog w=.ok (.int .i64 (n:Int)) w:=by
 obtain⟨D,hown,hs,_⟩:=h
 rw[hown.len Tryz.underlying115 ty,hs]
def a5w (f:List Int→Option Value)(x:List Int)(v:Value):List Int→Option Value:=fun y=>if y=x then some v else f y
theorem MapR.update (h:MapR w b n f)(hn:n<maxLen){l:List Int}(hl:ako l)(hf:f l=none)(v:Value):
  ∃w',(Instr.mapUpdate 115 (.map (some b)) (ang l) v).run Tryz.prog w=.ok () w'∧MapR w' b (n+1) (a5w f l v)∧w.grownBy w' (some b)∧w'.heap.size=w.heap.size:=by
 obtain⟨D,hown,hs,h2⟩:=h
 have him:=hown.isMap
 have htd:=hown.tidy keyed73
 obtain⟨kl,hk⟩:=a3s hl
 obtain⟨w',hrun,hown',hturn⟩:=hown.store keyed73 Tryz.underlying115 hn hk (d:=.held v) (ps:=[]) (val:=v) rfl
 refine⟨w',hrun,⟨_,hown',?_,fun x hx kx hkx=> ?_⟩,hturn.grown,?_⟩
 ·rw[Maps.size_put htd,(h2 l hl kl hk).1,hf,hs];rfl
 ·by_cases e:x=l
  ·subst e
   have:kx=kl:=Option.some.inj (hkx.symm.trans hk)
   subst this
   refine⟨?_,fun z=> ?_⟩
   ·rw[Maps.has_put_same him (keyed73.key hk)];simp[a5w]
   ·rw[Maps.atKey_put_same him (keyed73.key hk)];simp[a5w]
  ·have hne:kx≠kl:=fun e'=>e (au5 (keyed73.inj hkx (e'▸hk)))
   refine⟨?_,fun z=> ?_⟩
   ·rw[Maps.has_put_other hne,(h2 x hx kx hkx).1];simp[a5w,e]
   ·rw[Maps.atKey_put_other hne,(h2 x hx kx hkx).2];simp[a5w,e]
 ·obtain⟨es,clock,es',clock',_,e⟩:=hturn
  rw[e];simp[ChangeMaps.setBlock]
end
theorem a6k: ∀(p:List Int) (k i:Nat),(∀x∈p,x≠ -1)→Lib.idxFrom (p++List.replicate k (-1)) (-1) i=if k=0 then -1 else ((i+p.length:Nat):Int):=by
 intro p
 induction p with
 | nil=>
  intro k i _
  cases k with
  | zero=>simp[Lib.idxFrom]
  | succ k=>simp[Lib.idxFrom,List.replicate_succ]
 | cons a r ih=>
  intro k i h
  have ha:a≠ -1:=h a (by simp)
  have:=ih k (i+1) (fun x hx=>h x (by simp[hx]))
  simp only[List.cons_append,Lib.idxFrom]
  rw[if_neg (by simpa using ha),this]
  split
  ·rfl
  ·simp;omega
theorem ast {p:List Int}(h:adp p=true): ∀x∈p,x≠ -1:=by
 intro x hx e
 unfold adp at h
 simp only[Bool.and_eq_true,List.all_eq_true] at h
 have:=h.2 x hx
 rw[e] at this
 simp[adc] at this
theorem aqc {p:List Int}(h:adp p=true):ako (acu p):=by
 refine⟨ael (abf h).2,fun x hx=> ?_⟩
 unfold acu at hx
 rcases List.mem_append.1 hx with hx | hx
 ·unfold adp at h
  simp only[Bool.and_eq_true,List.all_eq_true] at h
  obtain⟨u,rfl,hu⟩:=ad7 (h.2 x hx)
  unfold InI;omega
 ·rw[(List.mem_replicate.1 hx).2];unfold InI;omega
theorem a6j {p:List Int}(h:adp p=true):Lib.idxOf ((acu p).take 8) (-1)=if p.length=8 then -1 else (p.length:Int):=by
 rw[List.take_of_length_le (by rw[ael (abf h).2];exact Nat.le_refl _)]
 unfold Lib.idxOf acu
 rw[a6k p _ 0 (ast h)]
 have:=(abf h).2
 by_cases e:p.length=8
 ·rw[if_pos (by omega),if_pos e]
 ·rw[if_neg (by omega),if_neg e];simp
set_option maxHeartbeats 1000000 in
theorem au2 {p:List Int}(h:adp p=true){a0 a1 a2 a3 a4 a5 a6 a7:Int}(hp:acu p=[a0,a1,a2,a3,a4,a5,a6,a7])(w:World):
  Calls Tryz.prog 88 #[.agg #[.int .i64 a0,.int .i64 a1,.int .i64 a2,.int .i64 a3,.int .i64 a4,.int .i64 a5,.int .i64 a6,.int .i64 a7]] w fun e w'=>e=.returned (.int .i64 (p.length:Int))∧w'=w.alloc (.cells #[.int .i64 a0,.int .i64 a1,.int .i64 a2,.int .i64 a3,.int .i64 a4,.int .i64 a5,.int .i64 a6,.int .i64 a7] 162):=by
 have hB:=Blk.new w 162 (rc (acu p))
 have hi:=Tryz.slices_Index_int w.heap.size 0 8 8 (acu p) (-1) (w.alloc (.cells (rc (acu p)) 162)) (by rw[ael (abf h).2];exact Nat.le_refl _) (by omega) (fun j hj=>by
  rw[Nat.zero_add,hB.cell,aql _ _ hj]
  simp[List.getD,hj])
 rw[a6j h] at hi
 have hl:=abf h
 have hrc:rc (acu p)= #[.int .i64 a0,.int .i64 a1,.int .i64 a2,.int .i64 a3,.int .i64 a4,.int .i64 a5,.int .i64 a6,.int .i64 a7]:=by rw[hp];rfl
 rw[hrc] at hi
 clear hB hrc hp
 by_cases e:p.length=8
 ·rw[if_pos e] at hi
  have E:Hid ((p.length:Int)=8):=by show _=_;omega
  clear e hl
  go_enter Tryz.func88,Tryz.ntmps88
  go_wp2_with fail
  refine hi.mono ?_
  rintro _ w1 ⟨rfl,rfl⟩
  go_wp2
  go_ret
  exact⟨by rw[E.out];rfl,rfl⟩
 ·rw[if_neg e] at hi
  generalize p.length=k at hi hl
  clear e
  go_enter Tryz.func88,Tryz.ntmps88
  go_wp2_with fail
  refine hi.mono ?_
  rintro _ w1 ⟨rfl,rfl⟩
  go_wp2
  go_ret
  exact⟨rfl,rfl⟩
end Go.Proofs.YtfhpgmlfgjfknaaGreatDoor
