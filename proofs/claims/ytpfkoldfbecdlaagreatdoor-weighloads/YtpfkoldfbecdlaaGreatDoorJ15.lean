/- Contracts and lemmas (nothing is claimed here). -/
import Derived.Test.YtpfkoldfbecdlaaGreatDoorJ14
import Derived.DeepKeys5
namespace Go.Proofs.YtpfkoldfbecdlaaGreatDoor
open Go.RowKit Go.Vf Go.Maps
theorem aur:(Tryz.prog.info? 133).map (fun i=>(i.zero,i.size,i.bytes))=some (some (.agg #[.bool false,.int .i64 0,.int .i64 0,.int .i64 0]),4,32):=by kernel_rfl
theorem aj7 {w:World}{ops:Array Oper}{rest:List Oper}{o:Oper}{a:Act}{Q:Exit→Act→World→Prop}(hgd:o.guard=none)(s x:Operand)
  (ho:o.op=.call {callee:=.builtin .append,args:= #[s,x],argTypes:= #[75,75]})
  (base:Nat) (v:Value) (l:List El) (hs:a.eval s=v) (hown:EOwn w base v l) (va:Bool) (pr se te:Int) (hx:a.eval x=.slice (some ⟨w.heap.size,0,none⟩) 1 1)
  (hlen:l.length≤1099511627776) (hbase:base≤w.heap.size)
  (h: ∀a' c' w',EOwn w' base (.slice a' (l.length+1) c') (l++[⟨va,pr,se,te⟩])→(w.alloc (.cells #[.bool va,.int .i64 pr,.int .i64 se,.int .i64 te] 133)).grownBy w' v.ownBlock→wpList Tryz.prog ops Q rest (a.put o.dst (.slice a' (l.length+1) c')) w'):
  wpList Tryz.prog ops Q (o::rest) a (w.alloc (.cells #[.bool va,.int .i64 pr,.int .i64 se,.int .i64 te] 133)):=by
 obtain⟨i,hi,hz,hsz,hby⟩:=info_parts aur
 have hb:=Blk.new w 133 #[.bool va,.int .i64 pr,.int .i64 se,.int .i64 te]
 refine wpList_append_own_at (P:=Tryz.prog) _ hgd s x 75 ho base 133 i _ 4 32 Tryz.underlying75 hi hz hsz hby rfl (by decide) v l.length (ai9 l) hs (World.ownsRow.alloc hown _) ⟨w.heap.size,0,none⟩ 1 1 [.bool va,.int .i64 pr,.int .i64 se,.int .i64 te] hx (by rfl) ?_ ?_ ?_ ?_ ?_ ?_
 ·intro j u hu
  match j,hu with
  | 0,hu=>simp at hu;subst hu;exact hb.cell 0
  | 1,hu=>simp at hu;subst hu;exact hb.cell 1
  | 2,hu=>simp at hu;subst hu;exact hb.cell 2
  | 3,hu=>simp at hu;subst hu;exact hb.cell 3
 ·intro u hu;simp at hu;rcases hu with rfl | rfl | rfl | rfl<;>rfl
 ·unfold maxLen;omega
 ·omega
 ·simp;omega
 ·intro v' w' h1 h2 _ _
  obtain⟨a',c',rfl⟩:=aay h1
  refine h a' c' w' ?_ h2
  unfold EOwn
  rw[alz,List.length_append]
  exact h1
def a5m (w:World)(r:Option (List El))(e:Ending)(w':World):Prop:=
 Below w.heap.size w w'∧match r with
 | none=>e=.returned (.tuple #[.slice none 0 0,.bool false])
 | some l=> ∃a n cap,e=.returned (.tuple #[.slice a n cap,.bool true])∧EOwn w' w.heap.size (.slice a n cap) l
theorem a5y (s:ByteArray)(k:Nat)(h:k+17≤s.size):(s.extract k (k+17)).data.toList=(s.data.toList.drop k).take 17∧(s.extract k (k+17)).size=17:=by
 refine⟨?_,?_⟩
 ·rw[ag6];congr 1;omega
 ·rw[ByteArray.size_extract];omega
set_option maxHeartbeats 2000000 in
set_option maxRecDepth 20000 in
theorem aj9 (s:ByteArray)(m:Int)(w:World)(hs:s.size≤65536)(hm:w.cell? ⟨2,0,none⟩=some (.int .i64 m)):
  Calls Tryz.prog 153 #[.string s] w fun e w'=>a5m w (aii s.data.toList) e w':=by
 have hsl:s.data.toList.length=s.size:=(Lib.size_eq s).symm
 have hlt0:2<w.heap.size:=World.block_lt_of_cell? w _ hm
 by_cases hemp:s.data.toList=[]
 ·have hemp':s.toList.isEmpty=true:=by rw[ByteArray.toList_eq];simpa using hemp
  rw[show aii s.data.toList=none by simp[aii,hemp]]
  clear hemp
  go_enter Tryz.func153,Tryz.ntmps153
  go_wp2
  go_ret2
  exact⟨Below.refl _ _,rfl⟩
 ·have hemp':s.toList.isEmpty=false:=by rw[ByteArray.toList_eq];simpa using hemp
  by_cases hbig:272<s.size
  ·rw[show aii s.data.toList=none by unfold aii;rw[if_pos (.inr (.inl (by omega)))]]
   clear hemp
   go_enter Tryz.func153,Tryz.ntmps153
   go_wp2
   go_ret2
   exact⟨Below.refl _ _,rfl⟩
  ·by_cases hmod:s.size % 17=0
   ·have hR:aii s.data.toList=anr (s.size/17) s.data.toList:=by
     unfold aii
     rw[hsl,if_neg (by rintro(h | h | h)<;>first | exact hemp h | omega)]
    have bm:(((s.size:Int) % 17) !=0)=false:=by
     rw[show ((s.size:Int) % 17)=0 by omega];rfl
    have bm':((Int.tmod (s.size:Int) 17) !=0)=false:=by
     rw[Int.tmod_eq_emod_of_nonneg (by omega),show((s.size:Int) % 17)=0 by omega];rfl
    generalize aii s.data.toList=R at hR⊢
    have HR:Hid (anr ((s.size-0)/17) (s.data.toList.drop 0)=R):=by show _=_;rw[hR];rfl
    have HM:Hid (s.size % 17=0):=hmod
    clear hR hmod hemp
    go_enter Tryz.func153,Tryz.ntmps153
    go_wp2_with fail
    go_loopw [4,5] (fun v i wr=> ∃(k:Nat) (acc:List El),k≤s.size∧k % 17=0∧i=.int .i64 k∧EOwn wr w.heap.size v acc∧acc.length≤k∧Hid ((anr ((s.size-k)/17) (s.data.toList.drop k)).map (acc++ ·)=R)∧Below w.heap.size w wr) (fun _ i _=>s.size-(intOf i).toNat)
    case atStart=>exact⟨0,[],by omega,by omega,rfl,EOwn.nil _ _,by simp,by show _=_;rw[←HR.out];simp,Below.refl _ _⟩
    case round=>
     clear HR
     obtain⟨k,acc,hk,hk17,rfl,hown,hal,HK,hbel⟩:=hrel
     obtain⟨av,cv,rfl⟩:=aay hown
     have hM:=HM.out
     by_cases hlt:k<s.size
     ·have h17:k+17≤s.size:=by omega
      obtain⟨ht,hts⟩:=a5y s k h17
      have hmr:=(hbel.cell (p:=⟨2,0,none⟩) hlt0).trans hm
      have hre:=ak5 (s.extract k (k+17)) m wr hts hmr
      rw[ht] at hre
      have hstep:anr ((s.size-k)/17) (s.data.toList.drop k)=match elR ((s.data.toList.drop k).take 17) with
       | none=>none
       | some e=>match anr ((s.size-(k+17))/17) (s.data.toList.drop (k+17)) with
        | none=>none
        | some l=>some (e::l):=by
       rw[show (s.size-k)/17=(s.size-(k+17))/17+1 by omega,anr,List.drop_drop]
       rfl
      have hKK:=HK.out
      rw[hstep] at hKK
      generalize elR ((s.data.toList.drop k).take 17)=E at hre hKK
      clear hstep HK ht hts hM
      cases E with
      | none=>
       have hRn:R=none:=by rw[←hKK];rfl
       clear hKK
       simp only[a7d] at hre
       go_wp2_with fail
       refine hre.mono ?_
       rintro _ w1 ⟨rfl,hb1⟩
       have hb2:=(hbel.trans (hb1.mono hbel.size)).alloc (hbel.trans (hb1.mono hbel.size)).size (.cells #[.bool false,.int .i64 0,.int .i64 0,.int .i64 0] 133)
       go_wp2
       go_ret2
       exact⟨hb2,by rw[hRn];rfl⟩
      | some e=>
       obtain⟨va,pr,se,te⟩:=e
       have HK2:Hid ((anr ((s.size-(k+17))/17) (s.data.toList.drop (k+17))).map ((acc++[⟨va,pr,se,te⟩])++ ·)=R):=by
        show _=_
        rw[←hKK]
        cases anr ((s.size-(k+17))/17) (s.data.toList.drop (k+17))<;>simp
       clear hKK
       simp only[a7d] at hre
       go_wp2_with fail
       refine hre.mono ?_
       rintro _ w1 ⟨rfl,hb1⟩
       have hbx:Below w.heap.size w w1:=hbel.trans (hb1.mono hbel.size)
       have hb2:=hbx.alloc hbx.size (.cells #[.bool va,.int .i64 pr,.int .i64 se,.int .i64 te] 133)
       have hown2:EOwn (w1.alloc (.cells #[.bool va,.int .i64 pr,.int .i64 se,.int .i64 te] 133)) w.heap.size _ acc:=World.ownsRow.alloc (aae hown hb1) _
       have hB2:=Blk.new w1 133 #[.bool va,.int .i64 pr,.int .i64 se,.int .i64 te]
       go_upto_region 10 with fail
       generalize hW:w1.alloc (.cells #[.bool va,.int .i64 pr,.int .i64 se,.int .i64 te] 133)=W at hb2 hown2 hB2⊢
       clear hW
       obtain⟨⟨d0,d1,d2,d3⟩,_⟩:=hB2.c4
       have hb3:=hb2.alloc hb2.size (.cells #[.bool va,.int .i64 pr,.int .i64 se,.int .i64 te] 133)
       go_wp2_with (first | (at_builtin;refine aj7 rfl _ _ rfl w.heap.size _ acc rfl hown2 va pr se te rfl (by omega) hb2.size ?_;intro a' c' w3 hown3 hgr3))
       have hb4:Below w.heap.size w w3:=hb3.grown hgr3 hb3.size (fun j hj=>(aal hown2 hj).1)
       go_wp2
       go_roundw
       case rel=>exact⟨k+17,acc++[⟨va,pr,se,te⟩],by omega,by omega,by simp,by simpa using hown3,by simp;omega,HK2,hb4⟩
       case measure=>simp only[intOf];omega
     ·have hRs:R=some acc:=by
       rw[←HK.out,show(s.size-k)/17=0 by omega]
       simp[anr]
      clear HK
      go_wp2
      go_ret2
      exact⟨hbel,by rw[hRs];exact⟨_,_,_,rfl,hown⟩⟩
   ·rw[show aii s.data.toList=none by unfold aii;rw[if_pos (.inr (.inr (by omega)))]]
    have bm:(((s.size:Int) % 17) !=0)=true:=by
     rw[bne_iff_ne];omega
    have bm':((Int.tmod (s.size:Int) 17) !=0)=true:=by
     rw[Int.tmod_eq_emod_of_nonneg (by omega),bne_iff_ne];omega
    clear hemp hmod
    go_enter Tryz.func153,Tryz.ntmps153
    go_wp2
    go_ret2
    exact⟨Below.refl _ _,rfl⟩
theorem ait {tmps:Array Value}{w:World}{b:Nat}{a0 a1 a2 a3 a4 a5 a6 a7 v:Value}(h:Blk w b 144 #[a0,a1,a2,a3,a4,a5,a6,a7])(t2:tmps[2]?.getD undef=.pointer (some ⟨b,0,none⟩))(t3:tmps[3]?.getD undef=v):
  (results Tryz.f152 tmps).run Tryz.prog w=.ok (.tuple #[.agg #[a0,a1,a2,a3,a4,a5,a6,a7],v]) w:=by
 obtain⟨c0,c1,c2,c3,c4,c5,c6,c7,_⟩:=h.c8
 simp[results,Tryz.results152,go_sem,t2,t3,c0,c1,c2,c3,c4,c5,c6,c7]
theorem aga {tmps:Array Value}{w:World}{b:Nat}{a0 a1 a2 a3 a4 a5 a6 a7 u v:Value}(h:Blk w b 144 #[a0,a1,a2,a3,a4,a5,a6,a7])(t2:tmps[2]?.getD undef=.pointer (some ⟨b,0,none⟩))(t3:tmps[3]?.getD undef=u)(t4:tmps[4]?.getD undef=v):
  (results Tryz.f98 tmps).run Tryz.prog w=.ok (.tuple #[.agg #[a0,a1,a2,a3,a4,a5,a6,a7],u,v]) w:=by
 obtain⟨c0,c1,c2,c3,c4,c5,c6,c7,_⟩:=h.c8
 simp[results,Tryz.results98,go_sem,t2,t3,t4,c0,c1,c2,c3,c4,c5,c6,c7]
def anh:Option (List Int)→Value
 | some p=>.tuple #[am0 (acr p),.bool true]
 | none=>.tuple #[am0 ahy,.bool false]
theorem a2l (zs:List Int):aut zs=anh (if ac9 zs then some zs else none):=by
 unfold aut
 cases ac9 zs<;>rfl
theorem alq (o:Option (List Int))(ho: ∀p,o=some p→p.length≤8): ∃a0 a1 a2 a3 a4 a5 a6 a7:Int,anh o=.tuple #[.agg #[.int .i64 a0,.int .i64 a1,.int .i64 a2,.int .i64 a3,.int .i64 a4,.int .i64 a5,.int .i64 a6,.int .i64 a7],.bool o.isSome]:=by
 cases o with
 | none=>exact⟨0,0,0,0,0,0,0,0,rfl⟩
 | some p=>
  obtain⟨a0,a1,a2,a3,a4,a5,a6,a7,h⟩:=aq7 (aeg (ho p rfl))
  refine⟨a0,a1,a2,a3,a4,a5,a6,a7,?_⟩
  show Value.tuple #[.agg (rc (acr p)),.bool true]=_
  rw[h];rfl
theorem abf {p:List Int}(h:ac9 p=true):1≤p.length∧p.length≤8:=by
 unfold ac9 at h
 simp only[Bool.and_eq_true,decide_eq_true_eq] at h
 exact h.1
set_option maxHeartbeats 2000000 in
set_option maxRecDepth 20000 in
theorem asi (s:ByteArray)(m:Int)(w:World)(hs:s.size≤65536)(hm:w.cell? ⟨2,0,none⟩=some (.int .i64 m)):
  Calls Tryz.prog 152 #[.string s] w fun e w'=>e=.returned (anh (rowR s.data.toList))∧Below w.heap.size w w':=by
 have hsl:s.data.toList.length=s.size:=(Lib.size_eq s).symm
 have hlt0:2<w.heap.size:=World.block_lt_of_cell? w _ hm
 have hcl:=abn 32 s.data.toList
 have hcs:=abj 32 s.data.toList
 have hsp:=fun(W:World)=>ad4 32 s m W hs
 have hR:rowR s.data.toList=match arx (aa5 32 s.data.toList) with
  | none=>none
  | some l=>if ac9 l then some l else none:=rfl
 generalize rowR s.data.toList=R at hR⊢
 generalize aa5 32 s.data.toList=C at hcl hcs hsp hR
 have HR:Hid (R=match arx C with
  | none=>none
  | some l=>if ac9 l then some l else none):=hR
 clear hR
 have hB0:=Blk.new w 144 #[.int .i64 0,.int .i64 0,.int .i64 0,.int .i64 0,.int .i64 0,.int .i64 0,.int .i64 0,.int .i64 0]
 have hbel:=(Below.refl w.heap.size w).alloc (Nat.le_refl _) (.cells #[.int .i64 0,.int .i64 0,.int .i64 0,.int .i64 0,.int .i64 0,.int .i64 0,.int .i64 0,.int .i64 0] 144)
 have hm1:=(hbel.cell (p:=⟨2,0,none⟩) hlt0).trans hm
 go_enter Tryz.func152,Tryz.ntmps152
 go_upto_region 2 with fail
 generalize hW:(w.alloc (.cells #[.int .i64 0,.int .i64 0,.int .i64 0,.int .i64 0,.int .i64 0,.int .i64 0,.int .i64 0,.int .i64 0] 144))=W at hB0 hbel hm1⊢
 clear hW
 have hwW:=hB0.lt
 go_wp2_with fail
 refine(hsp W hm1).mono ?_
 rintro _ w1 ⟨rfl,hst,hb1,hsz1⟩
 have hbw1:Below w.heap.size w w1:=hbel.trans (hb1.mono (by omega))
 have hB1:=hB0.below hb1 hwW
 have hW1:W.heap.size<w1.heap.size:=by omega
 clear hsz1 hB0 hbel hb1 hsp
 go_wp2_with fail
 go_loopw [4,12] (fun v i wr=> ∃(k:Nat) (acc:List Int),k≤C.length∧i=.int .i64 k∧IOwn wr w1.heap.size v acc∧acc.length=k∧Hid (R=match (arx (C.drop k)).map (acc++ ·) with
  | none=>none
  | some l=>if ac9 l then some l else none)∧Below w1.heap.size w1 wr∧w1.heap.size≤wr.heap.size) (fun _ i _=>C.length-(intOf i).toNat)
 case atStart=>exact⟨0,[],by omega,rfl,IOwn.nil _ _,rfl,by show _=_;rw[HR.out];simp,Below.refl _ _,Nat.le_refl _⟩
 case round=>
  clear HR
  obtain⟨k,acc,hk,rfl,hown,hal,HK,hbel,hsz⟩:=hrel
  have hbel0:Below w.heap.size w wr:=hbw1.trans (hbel.mono hbw1.size)
  have hBr:Blk wr w.heap.size 144 #[.int .i64 0,.int .i64 0,.int .i64 0,.int .i64 0,.int .i64 0,.int .i64 0,.int .i64 0,.int .i64 0]:=hB1.below hbel (by omega)
  by_cases hlt:k<C.length
  ·have hd:C.drop k=C[k]::C.drop (k+1):=List.drop_eq_getElem_cons hlt
   have hck:=(hst.below hbel (by omega)).cell hlt
   have hkl:=hcs C[k] (List.getElem_mem hlt)
   have hrp:=fun w=>amm (bsz C[k]) w (by simp[ByteArray.size];omega)
   rw[show (bsz C[k]).data.toList=C[k] by simp] at hrp
   have HK1:Hid (R=match (arx (C[k]::C.drop (k+1))).map (acc++ ·) with
    | none=>none
    | some l=>if ac9 l then some l else none):=by show _=_;rw[←hd];exact HK.out
   clear hd HK hkl
   generalize bsz C[k]=t at hck hrp
   generalize C[k]=c at hrp HK1
   cases hp:ptR c with
   | none=>
    have hRn:R=none:=by rw[HK1.out,arx,hp];rfl
    rw[hp] at hrp
    simp only[a6k] at hrp
    have hz8:=hBr.set8 rfl (.int .i64 0) (.int .i64 0) (.int .i64 0) (.int .i64 0) (.int .i64 0) (.int .i64 0) (.int .i64 0) (.int .i64 0)
    have hzb:=adz hbel0 (Nat.le_refl w.heap.size) (.int .i64 0) (.int .i64 0) (.int .i64 0) (.int .i64 0) (.int .i64 0) (.int .i64 0) (.int .i64 0) (.int .i64 0)
    obtain⟨d0,d1,d2,d3,d4,d5,d6,d7,df⟩:=hBr.c8
    have f0':=df 0
    have f1':=df 1
    have f2':=df 2
    have f3':=df 3
    have f4':=df 4
    have f5':=df 5
    have f6':=df 6
    have f7':=df 7
    clear HK1 hp df hBr
    go_wp2_with fail
    refine(hrp _).mono ?_
    rintro _ w2 ⟨rfl,rfl⟩
    go_wp2_with fail
    refine bodyPost_ret (ait hz8 rfl rfl) rfl ?_
    exact⟨by rw[hRn];rfl,hzb⟩
   | some q=>
    rw[hp] at hrp
    simp only[a6k] at hrp
    have HK2:Hid (R=match (arx (C.drop (k+1))).map ((acc++[q])++ ·) with
     | none=>none
     | some l=>if ac9 l then some l else none):=by
     show _=_
     rw[HK1.out,arx,hp]
     cases arx (C.drop (k+1))<;>simp
    clear HK1 hp hBr
    go_wp2_with fail
    refine(hrp _).mono ?_
    rintro _ w2 ⟨rfl,rfl⟩
    go_wp2_with (first | (at_builtin;refine aam rfl _ _ rfl w1.heap.size _ acc rfl (World.ownsRow.alloc hown _) [q] ⟨wr.heap.size,0,none⟩ 1 rfl (akl q wr) (by simp;omega) (by simp;omega) ?_;intro a' c' w3 hown3 hgr3 _ _))
    have hb3:Below w1.heap.size wr w3:=((Below.refl _ wr).alloc hsz _).grown hgr3 (by simp;omega) (fun j hj=>(aal hown hj).1)
    have hs3:=hgr3.size
    go_wp2
    go_roundw
    case rel=>exact⟨k+1,acc++[q],by omega,by simp,by first | exact hown3 | (rw[hal] at hown3;exact hown3),by simp[hal],HK2,hbel.trans hb3,by simp at hs3;omega⟩
    case measure=>simp only[intOf];omega
  ·have hRs:R=if ac9 acc then some acc else none:=by rw[HK.out,List.drop_of_length_le (by omega)];simp[arx]
   have hro:=ak1 wr.heap.size _ acc wr (Nat.le_refl _) hown.ints (by omega)
   rw[a2l,←hRs] at hro
   obtain⟨a0,a1,a2,a3,a4,a5,a6,a7,hg⟩:=alq R (fun p hp=>by
    rw[hRs] at hp
    split at hp
    ·rename_i hb;cases hp;exact(abf hb).2
    ·cases hp)
   rw[hg] at hro
   have HG:Hid (anh R=.tuple #[.agg #[.int .i64 a0,.int .i64 a1,.int .i64 a2,.int .i64 a3,.int .i64 a4,.int .i64 a5,.int .i64 a6,.int .i64 a7],.bool R.isSome]):=hg
   generalize R.isSome=rb at hro HG
   obtain⟨av,cv,rfl⟩:=hown.val
   clear HK hRs hg hal
   go_wp2_with fail
   refine hro.mono ?_
   rintro _ w2 ⟨rfl,hb2⟩
   have hbz:Below w.heap.size w w2:=hbel0.trans (hb2.mono hbel0.size)
   have hBz:Blk w2 w.heap.size 144 #[.int .i64 0,.int .i64 0,.int .i64 0,.int .i64 0,.int .i64 0,.int .i64 0,.int .i64 0,.int .i64 0]:=hBr.below hb2 hBr.lt
   have hz8:=hBz.set8 rfl (.int .i64 a0) (.int .i64 a1) (.int .i64 a2) (.int .i64 a3) (.int .i64 a4) (.int .i64 a5) (.int .i64 a6) (.int .i64 a7)
   have hzb:=adz hbz (Nat.le_refl w.heap.size) (.int .i64 a0) (.int .i64 a1) (.int .i64 a2) (.int .i64 a3) (.int .i64 a4) (.int .i64 a5) (.int .i64 a6) (.int .i64 a7)
   obtain⟨d0,d1,d2,d3,d4,d5,d6,d7,df⟩:=hBz.c8
   have f0':=df 0
   have f1':=df 1
   have f2':=df 2
   have f3':=df 3
   have f4':=df 4
   have f5':=df 5
   have f6':=df 6
   have f7':=df 7
   clear df hBr hBz
   go_wp2_with fail
   refine bodyPost_ret (ait hz8 rfl rfl) rfl ?_
   exact⟨by rw[HG.out];rfl,hzb⟩
def a5l (w:World)(r:Option Ent)(e:Ending)(w':World):Prop:=
 Below w.heap.size w w'∧match r with
 | none=> ∃a0 a1 a2 a3 a4 a5 a6 a7:Int,e=.returned (.tuple #[.agg #[.int .i64 a0,.int .i64 a1,.int .i64 a2,.int .i64 a3,.int .i64 a4,.int .i64 a5,.int .i64 a6,.int .i64 a7],.slice none 0 0,.bool false])
 | some x=> ∃a n cap,e=.returned (.tuple #[am0 (acr x.1),.slice a n cap,.bool true])∧EOwn w' w.heap.size (.slice a n cap) x.2
theorem a1y {w:World}{base:Nat}{e:TypeId}{size:Nat}{v:Value}{k b:Nat}{xs:List Value}(h:w.ownsRow base e size v k xs)(hb:b<base)(a0 a1 a2 a3 a4 a5 a6 a7:Value):
  ((((((((w.setCell ⟨b,0,none⟩ a0).setCell ⟨b,1,none⟩ a1).setCell ⟨b,2,none⟩ a2).setCell ⟨b,3,none⟩ a3).setCell ⟨b,4,none⟩ a4).setCell ⟨b,5,none⟩ a5).setCell ⟨b,6,none⟩ a6).setCell ⟨b,7,none⟩ a7).ownsRow base e size v k xs:=
 aaj (aaj (aaj (aaj (aaj (aaj (aaj (aaj h (p:=⟨b,0,none⟩) hb _) (p:=⟨b,1,none⟩) hb _) (p:=⟨b,2,none⟩) hb _) (p:=⟨b,3,none⟩) hb _) (p:=⟨b,4,none⟩) hb _) (p:=⟨b,5,none⟩) hb _) (p:=⟨b,6,none⟩) hb _) (p:=⟨b,7,none⟩) hb _
def a6q (a:Option (List Int))(b:Option (List El)):Option Ent:=a.bind fun p=>b.map fun l=>(p,l)
theorem a6p (s:List UInt8):aem s=a6q (rowR (aig 59 s).1) (aii (aig 59 s).2):=by
 unfold aem a6q
 cases rowR (aig 59 s).1 with
 | none=>rfl
 | some p=>cases aii (aig 59 s).2<;>rfl
set_option maxHeartbeats 2000000 in
set_option maxRecDepth 20000 in
theorem aom (s:ByteArray)(m:Int)(w:World)(hs:s.size≤65536)(hm:w.cell? ⟨2,0,none⟩=some (.int .i64 m)):
  Calls Tryz.prog 98 #[.string s] w fun e w'=>a5l w (aem s.data.toList) e w':=by
 have hsl:s.data.toList.length=s.size:=(Lib.size_eq s).symm
 have hlt0:2<w.heap.size:=World.block_lt_of_cell? w _ hm
 have hl1:=a3c 59 s.data.toList
 have hcut:=fun(W:World)=>a5b s m W hs
 have hR:=a6p s.data.toList
 have hok: ∀x,aem s.data.toList=some x→x.1.length≤8:=fun x hx=>(abf (ati hx).1).2
 generalize aem s.data.toList=R at hR hok⊢
 generalize (aig 59 s.data.toList).1=L at hl1 hcut hR
 generalize (aig 59 s.data.toList).2=Rr at hl1 hcut hR
 have hrow:=fun(W:World)=>asi (bsz L) m W (by simp[ByteArray.size];omega)
 have hels:=fun(W:World)=>aj9 (bsz Rr) m W (by simp[ByteArray.size];omega)
 rw[show (bsz L).data.toList=L by simp] at hrow
 rw[show (bsz Rr).data.toList=Rr by simp] at hels
 generalize bsz L=bl at hcut hrow
 generalize bsz Rr=br at hcut hels
 obtain⟨a0,a1,a2,a3,a4,a5,a6,a7,hg⟩:=alq (rowR L) (fun p hp=>(abf (asb hp)).2)
 generalize rowR L=RO at hR hrow hg
 generalize aii Rr=EO at hR hels
 rw[hg] at hrow
 have HG:Hid (anh RO=.tuple #[.agg #[.int .i64 a0,.int .i64 a1,.int .i64 a2,.int .i64 a3,.int .i64 a4,.int .i64 a5,.int .i64 a6,.int .i64 a7],.bool RO.isSome]):=hg
 clear hg
 have hB0:=Blk.new w 144 #[.int .i64 0,.int .i64 0,.int .i64 0,.int .i64 0,.int .i64 0,.int .i64 0,.int .i64 0,.int .i64 0]
 have hbel:=(Below.refl w.heap.size w).alloc (Nat.le_refl _) (.cells #[.int .i64 0,.int .i64 0,.int .i64 0,.int .i64 0,.int .i64 0,.int .i64 0,.int .i64 0,.int .i64 0] 144)
 have hm1:=(hbel.cell (p:=⟨2,0,none⟩) hlt0).trans hm
 have HR:Hid (R=a6q RO EO):=hR
 clear hR hl1
 go_enter Tryz.func98,Tryz.ntmps98
 go_upto_region 1 with fail
 generalize hW:(w.alloc (.cells #[.int .i64 0,.int .i64 0,.int .i64 0,.int .i64 0,.int .i64 0,.int .i64 0,.int .i64 0,.int .i64 0] 144))=W at hB0 hbel hm1⊢
 clear hW
 have hwW:=hB0.lt
 go_wp2_with fail
 refine(hcut W hm1).mono ?_
 rintro _ w1 ⟨fb,rfl,hb1⟩
 have hbw1:Below w.heap.size w w1:=hbel.trans (hb1.mono (by omega))
 have hB1:=hB0.below hb1 hwW
 have hm2:=(hbw1.cell (p:=⟨2,0,none⟩) hlt0).trans hm
 clear hB0 hbel hb1 hcut hm1
 go_wp2_with fail
 refine(hrow w1 hm2).mono ?_
 rintro _ w2 ⟨rfl,hb2⟩
 have hbw2:Below w.heap.size w w2:=hbw1.trans (hb2.mono hbw1.size)
 have hB2:=hB1.below hb2 hB1.lt
 have hBn:=Blk.new w2 144 #[.int .i64 a0,.int .i64 a1,.int .i64 a2,.int .i64 a3,.int .i64 a4,.int .i64 a5,.int .i64 a6,.int .i64 a7]
 have hbw3:=hbw2.alloc hbw2.size (.cells #[.int .i64 a0,.int .i64 a1,.int .i64 a2,.int .i64 a3,.int .i64 a4,.int .i64 a5,.int .i64 a6,.int .i64 a7] 144)
 have hB3:Blk (w2.alloc (.cells #[.int .i64 a0,.int .i64 a1,.int .i64 a2,.int .i64 a3,.int .i64 a4,.int .i64 a5,.int .i64 a6,.int .i64 a7] 144)) w.heap.size 144 _:=(Below.heap_alloc _ _ _ hB2.lt).trans hB2
 have hm3:=(hbw3.cell (p:=⟨2,0,none⟩) hlt0).trans hm
 have hlt2:=hB2.lt
 clear hbw1 hB1 hm2 hb2 hrow hbw2 hB2
 cases hRO:RO with
 | none=>
  have hRn:R=none:=by rw[HR.out,hRO];rfl
  clear hRO HR HG
  simp only[Option.isSome]
  go_upto_region 3 with fail
  generalize hW:(w2.alloc (.cells #[.int .i64 a0,.int .i64 a1,.int .i64 a2,.int .i64 a3,.int .i64 a4,.int .i64 a5,.int .i64 a6,.int .i64 a7] 144))=W3 at hBn hbw3 hB3 hm3⊢
  have hz8:=hB3.set8 rfl (.int .i64 0) (.int .i64 0) (.int .i64 0) (.int .i64 0) (.int .i64 0) (.int .i64 0) (.int .i64 0) (.int .i64 0)
  have hzb:=adz hbw3 (Nat.le_refl w.heap.size) (.int .i64 0) (.int .i64 0) (.int .i64 0) (.int .i64 0) (.int .i64 0) (.int .i64 0) (.int .i64 0) (.int .i64 0)
  obtain⟨d0,d1,d2,d3,d4,d5,d6,d7,df⟩:=hB3.c8
  have f0':=df 0
  have f1':=df 1
  have f2':=df 2
  have f3':=df 3
  have f4':=df 4
  have f5':=df 5
  have f6':=df 6
  have f7':=df 7
  clear df hB3 hW
  go_wp2_with fail
  refine bodyPost_ret (aga hz8 rfl rfl rfl) rfl ?_
  exact⟨hzb,by rw[hRn];exact⟨_,_,_,_,_,_,_,_,rfl⟩⟩
 | some p=>
  have hRp:R=a6q (some p) EO:=by rw[HR.out,hRO]
  have hpad:Hid (am0 (acr p)=.agg #[.int .i64 a0,.int .i64 a1,.int .i64 a2,.int .i64 a3,.int .i64 a4,.int .i64 a5,.int .i64 a6,.int .i64 a7]):=by
   have h:=HG.out
   rw[hRO] at h
   unfold anh at h
   simp only[Value.tuple.injEq,Array.mk.injEq,List.cons.injEq] at h
   exact h.1
  have HRp:Hid (R=a6q (some p) EO):=hRp
  clear hRO HR HG hRp
  simp only[Option.isSome]
  go_upto_region 3 with fail
  generalize hW:(w2.alloc (.cells #[.int .i64 a0,.int .i64 a1,.int .i64 a2,.int .i64 a3,.int .i64 a4,.int .i64 a5,.int .i64 a6,.int .i64 a7] 144))=W3 at hBn hbw3 hB3 hm3⊢
  have hsz3:w2.heap.size<W3.heap.size:=hBn.lt
  clear hW
  go_wp2_with fail
  refine(hels W3 hm3).mono ?_
  rintro _ w4 ⟨hb4,hpost⟩
  have hbw4:Below w.heap.size w w4:=hbw3.trans (hb4.mono hbw3.size)
  have hB4:=hB3.below hb4 hB3.lt
  have hBn4:=hBn.below hb4 hBn.lt
  obtain⟨e0,e1,e2,e3,e4,e5,e6,e7,_⟩:=hBn4.c8
  have hz8:=hB4.set8 rfl (.int .i64 a0) (.int .i64 a1) (.int .i64 a2) (.int .i64 a3) (.int .i64 a4) (.int .i64 a5) (.int .i64 a6) (.int .i64 a7)
  have hzb:=adz hbw4 (Nat.le_refl w.heap.size) (.int .i64 a0) (.int .i64 a1) (.int .i64 a2) (.int .i64 a3) (.int .i64 a4) (.int .i64 a5) (.int .i64 a6) (.int .i64 a7)
  have hz9:=adz (Below.refl w.heap.size w4) (Nat.le_refl w.heap.size) (.int .i64 a0) (.int .i64 a1) (.int .i64 a2) (.int .i64 a3) (.int .i64 a4) (.int .i64 a5) (.int .i64 a6) (.int .i64 a7)
  obtain⟨d0,d1,d2,d3,d4,d5,d6,d7,df⟩:=hB4.c8
  have f0':=df 0
  have f1':=df 1
  have f2':=df 2
  have f3':=df 3
  have f4':=df 4
  have f5':=df 5
  have f6':=df 6
  have f7':=df 7
  have hne:w.heap.size≠w2.heap.size:=by omega
  have hne': ¬w2.heap.size=w.heap.size:=by omega
  cases EO with
  | none=>
   obtain rfl:=hpost
   have hRn:R=none:=HRp.out
   clear df hB3 hB4 hBn hBn4 hels HRp
   go_wp2_with fail
   refine bodyPost_ret (aga hz8 rfl rfl rfl) rfl ?_
   exact⟨hzb,by rw[hRn];exact⟨_,_,_,_,_,_,_,_,rfl⟩⟩
  | some l=>
   obtain⟨ae,ne,ce,rfl,hown⟩:=hpost
   have hRs:R=some (p,l):=HRp.out
   clear df hB3 hBn hBn4 hels HRp
   go_wp2_with fail
   refine bodyPost_ret (aga hz8 rfl rfl rfl) rfl ?_
   refine⟨hzb,?_⟩
   rw[hRs]
   refine⟨_,_,_,by rw[hpad.out];rfl,?_⟩
   exact aah (a1y hown (show w.heap.size<W3.heap.size by omega) _ _ _ _ _ _ _ _) (by omega)
theorem a68:laidOutB Tryz.prog=true:=by kernel_rfl
theorem a54:(144:TypeId)<Tryz.prog.types.size:=of_decide_eq_true (by kernel_rfl)
theorem a5t:(match Tryz.prog.underlying 144 with | some (.array _ _) | some (.struct _)=>true | _=>false)=true:=by kernel_rfl
theorem a7n:Tryz.prog.keyTypeAt 2 144=true:=by kernel_rfl
theorem a6c {P:Program}(h:laidOutB P=true){k:TypeId}(hr:k<P.types.size)(ht:P.keyTypeAt 2 k=true)(hw:(match P.underlying k with | some (.array _ _) | some (.struct _)=>true | _=>false)=true):WideMaps.KeyLaw P k:=deep_law_laid h (m:=2) (by omega) hr ht hw
theorem a4n {a n:Nat}(h:a<n): ∃m,n=m+1:=⟨n-1,by omega⟩
theorem a65:WideMaps.KeyLaw Tryz.prog 144:=a6c a68 a54 a7n a5t
theorem keyed73:Keyed Tryz.prog 144:=Keyed.of_law a65
theorem ape:Tryz.prog.cellsOf 144=8:=by kernel_rfl
theorem a4b:Tryz.prog.cellsOf 3=1:=by kernel_rfl
theorem aze:Tryz.prog.keyType 144=true:=by kernel_rfl
theorem a3s: ∃m,Tryz.prog.types.size=m+1:=a4n a54
def ake (l:List Int):Prop:=l.length=8∧ ∀x∈l,InI x
theorem apm {x:Int}(h:InI x):(Lit.int .i64 x).wf=true:=by obtain⟨h1,h2⟩:=h;exact WalkArith.wf_i64 (by omega)
theorem a2c {l:List Int}(h:ake l): ∃kl,keyOf Tryz.prog 144 (am0 l)=some kl:=by
 obtain⟨h8,hx⟩:=h
 obtain⟨a0,a1,a2,a3,a4,a5,a6,a7,rfl⟩:=aq7 h8
 have w0:=apm (hx a0 (by simp))
 have w1:=apm (hx a1 (by simp))
 have w2:=apm (hx a2 (by simp))
 have w3:=apm (hx a3 (by simp))
 have w4:=apm (hx a4 (by simp))
 have w5:=apm (hx a5 (by simp))
 have w6:=apm (hx a6 (by simp))
 have w7:=apm (hx a7 (by simp))
 obtain⟨m,hm⟩:=a3s
 refine⟨.string (keyBytes [.int .i64 a0,.int .i64 a1,.int .i64 a2,.int .i64 a3,.int .i64 a4,.int .i64 a5,.int .i64 a6,.int .i64 a7]),?_⟩
 show keyOf Tryz.prog 144 (.agg #[.int .i64 a0,.int .i64 a1,.int .i64 a2,.int .i64 a3,.int .i64 a4,.int .i64 a5,.int .i64 a6,.int .i64 a7])=_
 unfold keyOf
 simp only[Tryz.underlying144]
 rw[if_pos (by simp[aze,Value.formed,Tryz.underlying144,ape]),hm]
 unfold Program.keyLits
 simp only[Tryz.underlying144,Value.cells]
 rw[if_pos (by rw[ape];rfl),show List.range 8=[0,1,2,3,4,5,6,7] from rfl]
 simp only[List.mapM_cons,List.mapM_nil]
 simp[a4b,Program.keyLits,Tryz.underlying3,w0,w1,w2,w3,w4,w5,w6,w7]
theorem aua {a b:List Int}(h:am0 a=am0 b):a=b:=by
 unfold am0 rc at h
 simp only[Value.agg.injEq,Array.mk.injEq] at h
 have:=congrArg (List.map (fun v=>match v with | Value.int _ z=>z | _=>0)) h
 simpa[List.map_map,Function.comp_def] using this
def MapR (w:World)(b n:Nat)(f:List Int→Option Value):Prop:=
 ∃D:DataW Value,w.ownsMap Tryz.prog 144 axd b n D∧Maps.size D=n∧ ∀l,ake l→ ∀kl,keyOf Tryz.prog 144 (am0 l)=some kl→Maps.has D kl=(f l).isSome∧ ∀z,D.atKey kl (.held z)=.held ((f l).getD z)
section
variable {w:World}{b n:Nat}{f:List Int→Option Value}
theorem MapR.made (w:World):MapR (w.alloc (.map #[] 0)) w.heap.size 0 (fun _=>none):=⟨_,World.ownsMap_made w _ _ _,rfl,fun _ _ _ _=>⟨rfl,fun _=>rfl⟩⟩
theorem MapR.lt (h:MapR w b n f):b<w.heap.size:=let ⟨_,h,_⟩:=h;h.lt
theorem MapR.block {w':World}(h:MapR w b n f)(hg:w'.heap[b]? =w.heap[b]?):MapR w' b n f:=by
 obtain⟨D,⟨es,clock,hb,F,hs,hD⟩,h2⟩:=h
 exact⟨D,⟨es,clock,hg.trans hb,F,hs,hD⟩,h2⟩
theorem MapR.below {w':World}{B:Nat}(h:MapR w b n f)(hg:Below B w w')(hb:b<B):MapR w' b n f:=h.block (hg.block b hb)
theorem MapR.kept {w':World}{row:Option Nat}(h:MapR w b n f)(hg:w.grownBy w' row)(hne:some b≠row):MapR w' b n f:=let ⟨D,h,h2⟩:=h;⟨D,h.kept hg hne,h2⟩
theorem MapR.look_ok (h:MapR w b n f){z:Value}(hz:(zeroValue 75).run Tryz.prog w=.ok z w){l:List Int}(hl:ake l):
  (Instr.lookup 111 (.map (some b)) (am0 l) true).run Tryz.prog w=.ok (.tuple #[(f l).getD z,.bool (f l).isSome]) w:=by
 obtain⟨D,hown,_,h2⟩:=h
 obtain⟨kl,hk⟩:=a2c hl
 obtain⟨v,ps,hrun,hv⟩:=hown.look_ok keyed73 Tryz.underlying111 hz (zd:=.held z) (zp:=[]) rfl hk
 rw[(h2 l hl kl hk).2 z] at hv
 simp only[axd,Option.some.injEq,Prod.mk.injEq,DataW.held.injEq] at hv
 rw[hrun,hv.1,(h2 l hl kl hk).1]
theorem MapR.len (h:MapR w b n f)(ty:TypeId):(Builtin.len_ #[111] ty #[.map (some b)]).run Tryz.prog w=.ok (.int .i64 (n:Int)) w:=by
 obtain⟨D,hown,hs,_⟩:=h
 rw[hown.len Tryz.underlying111 ty,hs]
def a4j (f:List Int→Option Value)(x:List Int)(v:Value):List Int→Option Value:=fun y=>if y=x then some v else f y
theorem MapR.update (h:MapR w b n f)(hn:n<maxLen){l:List Int}(hl:ake l)(hf:f l=none)(v:Value):
  ∃w',(Instr.mapUpdate 111 (.map (some b)) (am0 l) v).run Tryz.prog w=.ok () w'∧MapR w' b (n+1) (a4j f l v)∧w.grownBy w' (some b)∧w'.heap.size=w.heap.size:=by
 obtain⟨D,hown,hs,h2⟩:=h
 have him:=hown.isMap
 have htd:=hown.tidy keyed73
 obtain⟨kl,hk⟩:=a2c hl
 obtain⟨w',hrun,hown',hturn⟩:=hown.store keyed73 Tryz.underlying111 hn hk (d:=.held v) (ps:=[]) (val:=v) rfl
 refine⟨w',hrun,⟨_,hown',?_,fun x hx kx hkx=> ?_⟩,hturn.grown,?_⟩
 ·rw[Maps.size_put htd,(h2 l hl kl hk).1,hf,hs];rfl
 ·by_cases e:x=l
  ·subst e
   have:kx=kl:=Option.some.inj (hkx.symm.trans hk)
   subst this
   refine⟨?_,fun z=> ?_⟩
   ·rw[Maps.has_put_same him (keyed73.key hk)];simp[a4j]
   ·rw[Maps.atKey_put_same him (keyed73.key hk)];simp[a4j]
  ·have hne:kx≠kl:=fun e'=>e (aua (keyed73.inj hkx (e'▸hk)))
   refine⟨?_,fun z=> ?_⟩
   ·rw[Maps.has_put_other hne,(h2 x hx kx hkx).1];simp[a4j,e]
   ·rw[Maps.atKey_put_other hne,(h2 x hx kx hkx).2];simp[a4j,e]
 ·obtain⟨es,clock,es',clock',_,e⟩:=hturn
  rw[e];simp[ChangeMaps.setBlock]
end
theorem a42: ∀(p:List Int) (k i:Nat),(∀x∈p,x≠ -1)→Lib.idxFrom (p++List.replicate k (-1)) (-1) i=if k=0 then -1 else ((i+p.length:Nat):Int):=by
 intro p
 induction p with
 | nil=>
  intro k i _
  cases k with
  | zero=>simp[Lib.idxFrom]
  | succ k=>simp[Lib.idxFrom,List.replicate_succ]
 | cons a r ih=>
  intro k i h
  have ha:a≠ -1:=h a (by simp)
  have:=ih k (i+1) (fun x hx=>h x (by simp[hx]))
  simp only[List.cons_append,Lib.idxFrom]
  rw[if_neg (by simpa using ha),this]
  split
  ·rfl
  ·simp;omega
theorem asa {p:List Int}(h:ac9 p=true): ∀x∈p,x≠ -1:=by
 intro x hx e
 unfold ac9 at h
 simp only[Bool.and_eq_true,List.all_eq_true] at h
 have:=h.2 x hx
 rw[e] at this
 simp[abm] at this
theorem apz {p:List Int}(h:ac9 p=true):ake (acr p):=by
 refine⟨aeg (abf h).2,fun x hx=> ?_⟩
 unfold acr at hx
 rcases List.mem_append.1 hx with hx | hx
 ·unfold ac9 at h
  simp only[Bool.and_eq_true,List.all_eq_true] at h
  obtain⟨u,rfl,hu⟩:=ad9 (h.2 x hx)
  unfold InI;omega
 ·rw[(List.mem_replicate.1 hx).2];unfold InI;omega
theorem a40 {p:List Int}(h:ac9 p=true):Lib.idxOf ((acr p).take 8) (-1)=if p.length=8 then -1 else (p.length:Int):=by
 rw[List.take_of_length_le (by rw[aeg (abf h).2];exact Nat.le_refl _)]
 unfold Lib.idxOf acr
 rw[a42 p _ 0 (asa h)]
 have:=(abf h).2
 by_cases e:p.length=8
 ·rw[if_pos (by omega),if_pos e]
 ·rw[if_neg (by omega),if_neg e];simp
set_option maxHeartbeats 1000000 in
theorem at7 {p:List Int}(h:ac9 p=true){a0 a1 a2 a3 a4 a5 a6 a7:Int}(hp:acr p=[a0,a1,a2,a3,a4,a5,a6,a7])(w:World):
  Calls Tryz.prog 68 #[.agg #[.int .i64 a0,.int .i64 a1,.int .i64 a2,.int .i64 a3,.int .i64 a4,.int .i64 a5,.int .i64 a6,.int .i64 a7]] w fun e w'=>e=.returned (.int .i64 (p.length:Int))∧w'=w.alloc (.cells #[.int .i64 a0,.int .i64 a1,.int .i64 a2,.int .i64 a3,.int .i64 a4,.int .i64 a5,.int .i64 a6,.int .i64 a7] 144):=by
 have hB:=Blk.new w 144 (rc (acr p))
 have hi:=Tryz.slices_Index_int w.heap.size 0 8 8 (acr p) (-1) (w.alloc (.cells (rc (acr p)) 144)) (by rw[aeg (abf h).2];exact Nat.le_refl _) (by omega) (fun j hj=>by
  rw[Nat.zero_add,hB.cell,ap9 _ _ hj]
  simp[List.getD,hj])
 rw[a40 h] at hi
 have hl:=abf h
 have hrc:rc (acr p)= #[.int .i64 a0,.int .i64 a1,.int .i64 a2,.int .i64 a3,.int .i64 a4,.int .i64 a5,.int .i64 a6,.int .i64 a7]:=by rw[hp];rfl
 rw[hrc] at hi
 clear hB hrc hp
 by_cases e:p.length=8
 ·rw[if_pos e] at hi
  have E:Hid ((p.length:Int)=8):=by show _=_;omega
  clear e hl
  go_enter Tryz.func68,Tryz.ntmps68
  go_wp2_with fail
  refine hi.mono ?_
  rintro _ w1 ⟨rfl,rfl⟩
  go_wp2
  go_ret
  exact⟨by rw[E.out];rfl,rfl⟩
 ·rw[if_neg e] at hi
  generalize p.length=k at hi hl
  clear e
  go_enter Tryz.func68,Tryz.ntmps68
  go_wp2_with fail
  refine hi.mono ?_
  rintro _ w1 ⟨rfl,rfl⟩
  go_wp2
  go_ret
  exact⟨rfl,rfl⟩
end Go.Proofs.YtpfkoldfbecdlaaGreatDoor
