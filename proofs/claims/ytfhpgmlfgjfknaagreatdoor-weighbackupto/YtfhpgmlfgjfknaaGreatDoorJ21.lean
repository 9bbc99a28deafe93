/- Contracts and lemmas (nothing is claimed here). -/
import Derived.Test.YtfhpgmlfgjfknaaGreatDoorJ20
namespace Go.Proofs.YtfhpgmlfgjfknaaGreatDoor
open Go.RowKit Go.Vf Go.Maps Go.Sort
theorem MapR.look {w:World}{b n:Nat}{f:List Int→Option Value}(h:MapR w b n f){l:List Int}(hl:ako l){v:Value}(hv:f l=some v):
  (Instr.lookup 115 (.map (some b)) (ang l) false).run Tryz.prog w=.ok v w:=by
 obtain⟨D,hown,_,h2⟩:=h
 obtain⟨kl,hk⟩:=a3s hl
 obtain⟨u,ps,hrun,hu⟩:=hown.lookup keyed73 Tryz.underlying115 (aya w) (zd:=.held (.slice none 0 0)) (zp:=[]) rfl hk
 rw[(h2 l hl kl hk).2 _,hv] at hu
 simp only[ax7,Option.some.injEq,Prod.mk.injEq,DataW.held.injEq] at hu
 rw[hrun,hu.1]
 try rfl
theorem aev {P:Program}{o:Oper}{a:Act}{K:Act→World→Prop}{Q:Exit→Act→World→Prop}{w w':World}{u v v':Value}{t:TypeId}(s x:Operand)(ho:o.op=.call {callee:=.builtin .append,args:= #[s,x],argTypes:= #[t,t]})
  (hs:a.eval s=v) (hx:a.eval x=u) (hr:(Builtin.append_ #[t,t] o.type #[v,u]).run P w=.ok v' w') (h:K (a.put o.dst v') w'):Oper.wp P o a w K Q:=by
 unfold Oper.wp execOp
 simp only[ho,resolve,invoke,builtin,Sem.run_bind,Sem.run_pure,Result.andThen_ok,List.map_toArray,List.map_cons,List.map_nil,hs,hx,hr]
 exact h
theorem a7y:(Tryz.prog.info? 160).map (fun i=>(i.zero,i.size,i.bytes))=some (some (.agg #[.slice none 0 0,.slice none 0 0]),2,48):=by kernel_rfl
theorem a3b {p:List Int}:(acu p).take p.length=p:=by unfold acu;simp
theorem a1m (B:Nat)(p:List Int)(hp:adp p=true)(w:World)(hB:Blk w B 162 (rc (acu p))):Calls Tryz.prog 80 #[.slice (some ⟨B,0,none⟩) p.length 8] w fun e w'=> ∃pa pc,e=.returned (.slice pa p.length pc)∧IOwn w' w.heap.size (.slice pa p.length pc) p∧Below w.heap.size w w':=by
 have hl:=abf hp
 have h8:=ael hl.2
 refine(Tryz.slices_Clone_int B 0 p.length 8 (acu p) w (by omega) (by omega) (fun j hj=> ?_)).mono ?_
 ·rw[Nat.zero_add,hB.cell,aql _ _ hj]
  simp[List.getD,hj]
 ·rintro e w' ⟨v',rfl,hown,_,hb⟩
  obtain⟨pa,pc,rfl⟩:=aax hown
  rw[a3b] at hown
  exact⟨pa,pc,rfl,hown,hb⟩
theorem a1n (E:List El)(n₀:Nat)(v:Value)(w:World)(h1:1≤E.length)(h2:E.length≤16)(h:Els n₀ w v E):Calls Tryz.prog 89 #[v] w fun e w'=> ∃ea ec,e=.returned (.slice ea E.length ec)∧EOwn w' w.heap.size (.slice ea E.length ec) E∧Below w.heap.size w w':=by
 rcases id h with ⟨a,cap,rfl,rfl⟩ | ⟨b,off,cap,rfl,_,_⟩
 ·simp at h1
 ·refine(aob n₀ b off cap E w (by omega) h).mono ?_
  rintro e w' ⟨v',rfl,hown,hb⟩
  obtain⟨ea,ec,rfl⟩:=aax hown
  exact⟨ea,ec,rfl,hown,hb⟩
set_option maxHeartbeats 4000000 in
set_option maxRecDepth 20000 in
theorem aua (T me ml:Nat)(val:List Int→Value)(E:List Ent)(w:World)(ht:TabAt w T me ml val E)(hE:E.length≤4096)(hnd:(E.map Prod.fst).Nodup):
  Calls Tryz.prog 49 #[.pointer (some ⟨T,0,none⟩)] w fun e w'=> ∃v vs es,e=.returned v∧EntsO w' w.heap.size v vs es∧akp es∧es.Perm E∧Below w.heap.size w w':=by
 have t0:w.cell? ⟨T,0,none⟩=some (.map (some me)):=ht.blk.cell 0
 have hk:=callsIn_wide.1 (keys_in 0 (some me) w)
 have hb1:=(Below.refl w.heap.size w).alloc (Nat.le_refl _) (.cells #[.map (some me)] 115)
 have hB1:=Blk.new w 115 #[.map (some me)]
 have ht1:=ht.below hb1
 have hso:=awl w.heap.size me E.length hE (aml val E) _ hB1.lt (hB1.cell 0) ht1.ents
 go_enter Tryz.func49,Tryz.ntmps49
 go_wp2_with fail
 refine hk.mono ?_
 rintro e w1 ⟨rfl,rfl⟩
 go_wp2_with fail
 refine hso.mono ?_
 generalize w.alloc (.cells #[.map (some me)] 115)=w1 at hb1 ht1
 rintro e W3 ⟨rv,ss,rfl,hrise,hmem,hrow,hb3⟩
 have ht3:=ht1.below hb3
 have hb13:Below w.heap.size w W3:=hb1.trans (hb3.mono hb1.size)
 obtain⟨hR,hP⟩:=a06 ht.ok hnd hrise hmem
 have hlen:ss.length≤4096:=by have:=hP.length_eq;simp at this;omega
 have hsp: ∀r∈ss,ajz E r∈E∧acu (ajz E r).1=r.l:=fun r hr=>arm ((hmem r).1 hr).2
 obtain⟨es,hes⟩: ∃es,es=ss.map (ajz E):=⟨_,rfl⟩
 rw[←hes] at hR hP
 have hesl:es.length=ss.length:=by rw[hes];simp
 have hesg: ∀k (h:k<ss.length),es[k]? =some (ajz E ss[k]):=fun k h=>by rw[hes];simp[h]
 have hcell: ∀k (h:k<ss.length),∃g,(∃cap,rv=.slice (some ⟨g,0,none⟩) ss.length cap)∧ ∀c,c<8→W3.cell? ⟨g,k*8+c,none⟩=(ahn ss[k])[c]?:=fun k h=>by
  rcases hrow.2 with ⟨rfl,h0⟩ | ⟨g,cap,cur,rfl,hb,hg,hn,hm,hs,htk⟩
  ·omega
  ·refine⟨g,⟨cap,rfl⟩,fun c hc=> ?_⟩
   have hB:Blk W3 g 162 cur:=hg
   rw[hB.cell,←Array.getElem?_toList,←List.getElem?_take_of_lt (show k*8+c<ss.length*8 by omega),htk,aj2 ss _ (by omega)]
   have e1:(k*8+c)/8=k:=by omega
   have e2:(k*8+c) % 8=c:=by omega
   rw[e1,e2]
   have e3:ss.toArray[k]! =ss[k]:=by simp[h]
   rw[e3]
   have:c<(ahn ss[k]).length:=by rw[ago];exact hc
   simp[this]
 have hrt:=aax hrow
 obtain⟨ra,rcap,hrv⟩:=hrt
 subst hrv
 have HES:Hid (es.length=ss.length):=hesl
 have hgW:=hrow.lt
 clear hes hesl hrow hmem hrise hso hk hB1 t0
 go_wp2_with fail
 go_loopw [4,17] (fun lv i wr=> ∃(k:Nat) (vs:List (Value×Value)),k≤ss.length∧i=.int .i64 k∧EntsO wr W3.heap.size lv vs (es.take k)∧Below W3.heap.size W3 wr) (fun _ i _=>ss.length-(intOf i).toNat)
 case atStart=>exact⟨0,[],by omega,rfl,EntsO.nil _ _,Below.refl _ _⟩
 case round=>
  obtain⟨k,vs,hk,rfl,hEO,hbr⟩:=hrel
  by_cases hlt:k<ss.length
  ·have hlt':=hlt
   obtain⟨g,⟨cap,hrv⟩,hcs⟩:=hcell k hlt'
   cases hrv
   obtain⟨hme,hpad⟩:=hsp ss[k] (List.getElem_mem hlt')
   have hek:=hesg k hlt'
   generalize hent:ajz E ss[k]=en at hme hpad hek
   obtain⟨p,l⟩:=en
   have hok:EntOk (p,l):=ht.ok _ hme
   generalize hrr:ss[k]=r at hcs hpad
   obtain⟨a0,a1,a2,a3,a4,a5,a6,a7⟩:=r
   have hpad':acu p=[a0,a1,a2,a3,a4,a5,a6,a7]:=hpad
   have hgl:g<W3.heap.size:=World.block_lt_of_cell? W3 _ ((hcs 0 (by omega)).trans rfl)
   have q: ∀c,c<8→wr.cell? ⟨g,k*8+c,none⟩=(ahn ⟨a0,a1,a2,a3,a4,a5,a6,a7⟩)[c]?:=fun c hc=>(hbr.cell (p:=⟨g,k*8+c,none⟩) hgl).trans (hcs c hc)
   have c0:wr.cell? ⟨g,k*8,none⟩=some (.int .i64 a0):=q 0 (by omega)
   have c1:wr.cell? ⟨g,k*8+1,none⟩=some (.int .i64 a1):=q 1 (by omega)
   have c2:wr.cell? ⟨g,k*8+2,none⟩=some (.int .i64 a2):=q 2 (by omega)
   have c3:wr.cell? ⟨g,k*8+3,none⟩=some (.int .i64 a3):=q 3 (by omega)
   have c4:wr.cell? ⟨g,k*8+4,none⟩=some (.int .i64 a4):=q 4 (by omega)
   have c5:wr.cell? ⟨g,k*8+5,none⟩=some (.int .i64 a5):=q 5 (by omega)
   have c6:wr.cell? ⟨g,k*8+6,none⟩=some (.int .i64 a6):=q 6 (by omega)
   have c7:wr.cell? ⟨g,k*8+7,none⟩=some (.int .i64 a7):=q 7 (by omega)
   have htr:=ht3.below hbr
   clear q hcs hcell hsp hesg hrr hent
   obtain⟨la,ln,hlv⟩:=aax hEO.row
   subst hlv
   have hTK:(es.take k).length=k:=by rw[List.length_take,HES.out];omega
   have hbW:=(Below.refl wr.heap.size wr).alloc (Nat.le_refl _) (.cells #[.int .i64 a0,.int .i64 a1,.int .i64 a2,.int .i64 a3,.int .i64 a4,.int .i64 a5,.int .i64 a6,.int .i64 a7] 162)
   have hBW:=Blk.new wr 162 #[.int .i64 a0,.int .i64 a1,.int .i64 a2,.int .i64 a3,.int .i64 a4,.int .i64 a5,.int .i64 a6,.int .i64 a7]
   go_upto_region 8 with fail
   generalize wr.alloc (.cells #[.int .i64 a0,.int .i64 a1,.int .i64 a2,.int .i64 a3,.int .i64 a4,.int .i64 a5,.int .i64 a6,.int .i64 a7] 162)=W at hbW hBW⊢
   generalize hBe:wr.heap.size=B at hBW⊢
   clear hBe
   have hBW8:1≤p.length∧p.length≤8:=abf hok.row
   have hvE:aml val E (acu p)=some (val (acu p)):=by
    unfold aml
    rw[if_pos (List.any_eq_true.2 ⟨_,hme,by simp⟩)]
   have hels:=ht3.els _ hme
   obtain⟨va,vc,hvv⟩:=hels.val
   simp only at hels hvv
   rw[hpad'] at hels hvv hvE
   have hrow8:ang [a0,a1,a2,a3,a4,a5,a6,a7]=.agg #[.int .i64 a0,.int .i64 a1,.int .i64 a2,.int .i64 a3,.int .i64 a4,.int .i64 a5,.int .i64 a6,.int .i64 a7]:=rfl
   have hin:=aqc hok.row
   rw[hpad'] at hin
   have hT3:=ht3.blk
   have hM3:=ht3.ents
   have hS1: ∀x,Below W.heap.size W x→Below W3.heap.size W3 x∧Blk x B 162 #[.int .i64 a0,.int .i64 a1,.int .i64 a2,.int .i64 a3,.int .i64 a4,.int .i64 a5,.int .i64 a6,.int .i64 a7]:=fun x hx=>⟨(hbr.trans (hbW.mono hbr.size)).trans (hx.mono (Nat.le_trans hbr.size hbW.size)),hBW.below hx hBW.lt⟩
   have hF: ∀x:World,Below W3.heap.size W3 x∧Blk x B 162 #[.int .i64 a0,.int .i64 a1,.int .i64 a2,.int .i64 a3,.int .i64 a4,.int .i64 a5,.int .i64 a6,.int .i64 a7]→x.cell? ⟨T,0,none⟩=some (.map (some me))∧x.cell? ⟨B,0,none⟩=some (.int .i64 a0)∧x.cell? ⟨B,1,none⟩=some (.int .i64 a1)∧x.cell? ⟨B,2,none⟩=some (.int .i64 a2)∧x.cell? ⟨B,3,none⟩=some (.int .i64 a3)∧x.cell? ⟨B,4,none⟩=some (.int .i64 a4)∧x.cell? ⟨B,5,none⟩=some (.int .i64 a5)∧x.cell? ⟨B,6,none⟩=some (.int .i64 a6)∧x.cell? ⟨B,7,none⟩=some (.int .i64 a7)∧(Instr.lookup 115 (.map (some me)) (.agg #[.int .i64 a0,.int .i64 a1,.int .i64 a2,.int .i64 a3,.int .i64 a4,.int .i64 a5,.int .i64 a6,.int .i64 a7]) false).run Tryz.prog x=.ok (.slice va l.length vc) x:=fun x ⟨h1,h2⟩=>
    ⟨(hT3.below h1 hT3.lt).cell 0,h2.cell 0,h2.cell 1,h2.cell 2,h2.cell 3,h2.cell 4,h2.cell 5,h2.cell 6,h2.cell 7,by
     have:=(hM3.below h1 hM3.lt).look hin hvE
     rw[hrow8,hvv] at this
     exact this⟩
   have hsz:=fun w=>au2 hok.row hpad' w
   have hsl: ∀x:World,(Instr.sliceAt 162 (.pointer (some ⟨B,0,none⟩)) none (some (.int .i64 (p.length:Int))) none).run Tryz.prog x=.ok (.slice (some ⟨B,0,none⟩) p.length 8) x:=fun x=>by
    have:=run_sliceAt_array_h (P:=Tryz.prog) (w:=x) (t:=162) (a:=⟨B,0,none⟩) Tryz.underlying162 .i64 (p.length:Int) (by omega) (by rw[show Tryz.prog.arrayLen 162=8 from by kernel_rfl];omega)
    rw[this,show Tryz.prog.arrayLen 162=8 from by kernel_rfl,show(Go.sizeOf (Tryz.prog.elem 162)).run Tryz.prog x=.ok 1 x from by kernel_rfl]
    simp[Result.andThen,slicedAt,Addr.add]
   have hcI: ∀x,Below W.heap.size W x→Calls Tryz.prog 80 #[.slice (some ⟨B,0,none⟩) p.length 8] x fun e w'=> ∃pa pc,e=.returned (.slice pa p.length pc)∧IOwn w' x.heap.size (.slice pa p.length pc) p∧Below x.heap.size x w':=fun x hx=>
    a1m B p hok.row x (by rw[hpad'];exact(hS1 x hx).2)
   have hcE: ∀x,Below W.heap.size W x→Calls Tryz.prog 89 #[.slice va l.length vc] x fun e w'=> ∃ea ec,e=.returned (.slice ea l.length ec)∧EOwn w' x.heap.size (.slice ea l.length ec) l∧Below x.heap.size x w':=fun x hx=>
    a1n l W3.heap.size _ x hok.n0 hok.n1 (by rw[hvv] at hels;exact hels.below (hS1 x hx).1 (Nat.le_refl _))
   have hEOW:=hEO.below hbW (Nat.le_refl _)
   have htl: ∀(x:World) (pa:Option Addr) (pc:Nat) (ea:Option Addr) (ec:Nat),Below W.heap.size W x→IOwn x W.heap.size (.slice pa p.length pc) p→EOwn x W.heap.size (.slice ea l.length ec) l→
     ∃a' c' wF,(Builtin.append_ #[63,63] 63 #[.slice la k ln,.slice (some ⟨x.heap.size,0,none⟩) 1 1]).run Tryz.prog (x.alloc (.cells #[.slice pa p.length pc,.slice ea l.length ec] 160))=.ok (.slice a' (k+1) c') wF∧EntsO wF W3.heap.size (.slice a' (k+1) c') (vs++[(.slice pa p.length pc,.slice ea l.length ec)]) (es.take (k+1))∧(Below W3.heap.size W3 wF∧Blk wF B 162 #[.int .i64 a0,.int .i64 a1,.int .i64 a2,.int .i64 a3,.int .i64 a4,.int .i64 a5,.int .i64 a6,.int .i64 a7]):=by
    intro x pa pc ea ec hx hp he
    obtain⟨i0,hi,hz0,hz1,hz2⟩:=info_parts a7y
    have hEx:=hEOW.below hx (Nat.le_refl _)
    have hx3:=hS1 x hx
    have hnb:=Blk.new x 160 #[.slice pa p.length pc,.slice ea l.length ec]
    have hw3:W3.heap.size≤W.heap.size:=Nat.le_trans hbr.size hbW.size
    obtain⟨v',wF,hrun,hown,hg,_,_⟩:=run_append_own_at (P:=Tryz.prog) (x.alloc (.cells #[.slice pa p.length pc,.slice ea l.length ec] 160)) W3.heap.size 63 63 160 i0 _ 2 48 Tryz.underlying63 hi hz0 hz1 hz2 rfl (by decide) _ _ _ (hEx.row.alloc _) ⟨x.heap.size,0,none⟩ 1 1 [.slice pa p.length pc,.slice ea l.length ec] rfl
     (by
      intro j u hu
      match j,hu with
      | 0,hu=>simp at hu;subst hu;exact hnb.cell 0
      | 1,hu=>simp at hu;subst hu;exact hnb.cell 1)
     (by intro u hu;simp at hu;rcases hu with rfl | rfl<;>rfl) (by unfold maxLen;omega) (by omega) (by have:=hx3.1.size;simp;omega)
    have hsn:=hEx.snoc (e:=(p,l)) (aai hp hw3) (aai he hw3) (m:=W.heap.size) hEOW.lt (fun g hg=>(aan hp hg).1) (fun g hg=>(aan he hg).1) hown hg
    rw[hTK] at hrun hown
    obtain⟨a',c',rfl⟩:=aax hown
    refine⟨a',c',wF,hrun,?_,?_,?_⟩
    ·rw[List.take_add_one,hek]
     exact hsn
    ·exact(hx3.1.alloc hx3.1.size _).grown hg (by have:=hx3.1.size;simp;omega) (fun j hj=>(aan hEx.row hj).1)
    ·exact ahd (hx3.2.below ((Below.refl x.heap.size x).alloc (Nat.le_refl _) _) hx3.2.lt) (hEx.row.alloc _) (by decide) hg
   rw[hTK]
   clear hvE hels hin hrow8 hM3 hT3 hEO hEOW c0 c1 c2 c3 c4 c5 c6 c7
   have hS0:Below W.heap.size W W.drew:=(Below.refl _ W).drew
   clear hvv hek hme hpad hpad' hok
   generalize p.length=kp at*
   generalize l.length=kl at*
   refine wp_region_held_drew (S:=fun x=>Below W3.heap.size W3 x∧Blk x B 162 #[.int .i64 a0,.int .i64 a1,.int .i64 a2,.int .i64 a3,.int .i64 a4,.int .i64 a5,.int .i64 a6,.int .i64 a7]) (by kernel_rfl) (hS1 _ hS0) (fun hHeld=> ?_)
   refine aac (i:=0) (some 21) (v:= ?v1) rfl rfl (by kernel_rfl) (by kernel_rfl) (by kernel_rfl) (fun _ _ _ h=>h) (Or.inl ⟨by kernel_rfl,?hy1⟩) (by assumption) ?rest1
   case hy1=>(intro x hSx;(try dsimp only at hSx);obtain⟨s0,s1,s2,s3,s4,s5,s6,s7,s8,s9⟩:=hF x hSx;go_simp;first | done | with_reducible rfl)
   try simp only[Act.put,List.setIfInBounds_toArray,List.set_cons_zero,List.set_cons_succ]
   refine aac (i:=1) (some 22) (v:= ?v2) rfl rfl (by kernel_rfl) (by kernel_rfl) (by kernel_rfl) (fun _ _ _ h=>h) (Or.inl ⟨by kernel_rfl,?hy2⟩) (by assumption) ?rest2
   case hy2=>(intro x hSx;(try dsimp only at hSx);obtain⟨s0,s1,s2,s3,s4,s5,s6,s7,s8,s9⟩:=hF x hSx;go_simp;first | done | with_reducible rfl)
   try simp only[Act.put,List.setIfInBounds_toArray,List.set_cons_zero,List.set_cons_succ]
   refine aac (i:=5) (some 26) (v:= ?v3) rfl rfl (by kernel_rfl) (by kernel_rfl) (by kernel_rfl) (fun _ _ _ h=>h) (Or.inl ⟨by kernel_rfl,?hy3⟩) (by assumption) ?rest3
   case hy3=>(intro x hSx;(try dsimp only at hSx);obtain⟨s0,s1,s2,s3,s4,s5,s6,s7,s8,s9⟩:=hF x hSx;go_simp;first | done | with_reducible rfl)
   try simp only[Act.put,List.setIfInBounds_toArray,List.set_cons_zero,List.set_cons_succ]
   refine aac (i:=6) (some 27) (v:= ?v4) rfl rfl (by kernel_rfl) (by kernel_rfl) (by kernel_rfl) (fun _ _ _ h=>h) (Or.inl ⟨by kernel_rfl,?hy4⟩) (by assumption) ?rest4
   case hy4=>(intro x hSx;(try dsimp only at hSx);obtain⟨s0,s1,s2,s3,s4,s5,s6,s7,s8,s9⟩:=hF x hSx;go_simp;first | done | with_reducible rfl)
   try simp only[Act.put,List.setIfInBounds_toArray,List.set_cons_zero,List.set_cons_succ]
   refine aac (i:=7) (some 28) (v:= ?v5) rfl rfl (by kernel_rfl) (by kernel_rfl) (by kernel_rfl) (fun _ _ _ h=>h) (Or.inl ⟨by kernel_rfl,?hy5⟩) (by assumption) ?rest5
   case hy5=>(intro x hSx;(try dsimp only at hSx);obtain⟨s0,s1,s2,s3,s4,s5,s6,s7,s8,s9⟩:=hF x hSx;go_simp;first | done | with_reducible rfl)
   try simp only[Act.put,List.setIfInBounds_toArray,List.set_cons_zero,List.set_cons_succ]
   refine aac (i:=8) (some 29) (v:= ?v6) rfl rfl (by kernel_rfl) (by kernel_rfl) (by kernel_rfl) (fun _ _ _ h=>h) (Or.inl ⟨by kernel_rfl,?hy6⟩) (by assumption) ?rest6
   case hy6=>(intro x hSx;(try dsimp only at hSx);obtain⟨s0,s1,s2,s3,s4,s5,s6,s7,s8,s9⟩:=hF x hSx;go_simp;first | done | with_reducible rfl)
   try simp only[Act.put,List.setIfInBounds_toArray,List.set_cons_zero,List.set_cons_succ]
   refine aac (i:=9) (some 30) (v:= ?v7) rfl rfl (by kernel_rfl) (by kernel_rfl) (by kernel_rfl) (fun _ _ _ h=>h) (Or.inl ⟨by kernel_rfl,?hy7⟩) (by assumption) ?rest7
   case hy7=>(intro x hSx;(try dsimp only at hSx);obtain⟨s0,s1,s2,s3,s4,s5,s6,s7,s8,s9⟩:=hF x hSx;go_simp;first | done | with_reducible rfl)
   try simp only[Act.put,List.setIfInBounds_toArray,List.set_cons_zero,List.set_cons_succ]
   refine aac (i:=10) (some 31) (v:= ?v8) rfl rfl (by kernel_rfl) (by kernel_rfl) (by kernel_rfl) (fun _ _ _ h=>h) (Or.inl ⟨by kernel_rfl,?hy8⟩) (by assumption) ?rest8
   case hy8=>(intro x hSx;(try dsimp only at hSx);obtain⟨s0,s1,s2,s3,s4,s5,s6,s7,s8,s9⟩:=hF x hSx;go_simp;first | done | with_reducible rfl)
   try simp only[Act.put,List.setIfInBounds_toArray,List.set_cons_zero,List.set_cons_succ]
   refine wpAnyH_ready (rs:=[2]) (by kernel_rfl) (by simp) ?_
   refine AllReadyH.cons rfl (fun K hK=> ?_) AllReadyH.nil
   go_simp
   go_wp2_with (go_at_call 88;refine(hsz _).mono ?_;rintro e wA ⟨rfl,rfl⟩)
   have hSA:=((Below.refl W.heap.size W).alloc (Nat.le_refl _) (.cells #[.int .i64 a0,.int .i64 a1,.int .i64 a2,.int .i64 a3,.int .i64 a4,.int .i64 a5,.int .i64 a6,.int .i64 a7] 162)).drew
   refine hK.out _ _ (hS1 _ hSA) (fun hHA=> ?_)
   clear hK K
   generalize (W.alloc (.cells #[.int .i64 a0,.int .i64 a1,.int .i64 a2,.int .i64 a3,.int .i64 a4,.int .i64 a5,.int .i64 a6,.int .i64 a7] 162)).drew=wA at hSA hHA⊢
   refine aac (i:=3) (some 24) (v:= ?v9) rfl rfl (by kernel_rfl) (by kernel_rfl) (by kernel_rfl) (fun _ _ _ h=>h) (Or.inl ⟨by kernel_rfl,?hy9⟩) (by assumption) ?rest9
   case hy9=>(intro x hSx;(try dsimp only at hSx);obtain⟨s0,s1,s2,s3,s4,s5,s6,s7,s8,s9⟩:=hF x hSx;go_simp;first | done | with_reducible rfl)
   try simp only[Act.put,List.setIfInBounds_toArray,List.set_cons_zero,List.set_cons_succ]
   refine wpAnyH_ready (rs:=[4]) (by kernel_rfl) (by simp) ?_
   refine AllReadyH.cons rfl (fun K hK=> ?_) AllReadyH.nil
   go_simp
   refine(hcI _ hSA).mono ?_
   rintro e wI ⟨pa,pc,rfl,hpI,hbI⟩
   go_simp
   have hSI:=hSA.trans (hbI.mono hSA.size)
   refine hK.out _ _ (hS1 _ hSI) (fun hHI=> ?_)
   clear hK K
   refine wpAnyH_ready (rs:=[11]) (by kernel_rfl) (by simp) ?_
   refine AllReadyH.cons rfl (fun K hK=> ?_) AllReadyH.nil
   go_simp
   refine(hcE _ hSI).mono ?_
   rintro e wE ⟨ea,ec,rfl,heE,hbE⟩
   go_simp
   have hSE:=hSI.trans (hbE.mono hSI.size)
   refine hK.out _ _ (hS1 _ hSE) (fun hHE=> ?_)
   clear hK K
   obtain⟨a',c',wF,hrun,hEF,hbF⟩:=htl wE pa pc ea ec hSE (aai (adj hpI (fun g hg=>hbE.block g (alh hpI g hg))) hSA.size) (aai heE hSI.size)
   refine aac (i:=12) (some 33) (v:= ?v10) rfl rfl (by kernel_rfl) (by kernel_rfl) (by kernel_rfl) (fun _ _ _ h=>h) (Or.inl ⟨by kernel_rfl,?hy10⟩) (by assumption) ?rest10
   case hy10=>(intro x hSx;(try dsimp only at hSx);obtain⟨s0,s1,s2,s3,s4,s5,s6,s7,s8,s9⟩:=hF x hSx;go_simp;first | done | with_reducible rfl)
   try simp only[Act.put,List.setIfInBounds_toArray,List.set_cons_zero,List.set_cons_succ]
   refine wpAnyH_ready (rs:=[13]) (by kernel_rfl) (by simp) ?_
   refine AllReadyH.cons rfl (fun K hK=> ?_) AllReadyH.nil
   go_simp
   refine hK.out _ _ (hS1 _ (hSE.alloc hSE.size _)) (fun hHB=> ?_)
   clear hK K
   refine wpAnyH_ready (rs:=[14]) (by kernel_rfl) (by simp) ?_
   refine AllReadyH.cons rfl (fun K hK=> ?_) AllReadyH.nil
   rw[if_pos (by kernel_rfl)]
   refine aev (.tmp 21) (.tmp 34) rfl rfl rfl hrun (hK.out _ _ hbF (fun hHC=> ?_))
   clear hK K
   try simp only[Act.put,List.setIfInBounds_toArray]
   refine aac (i:=15) (some 4) (v:= ?v11) rfl rfl (by kernel_rfl) (by kernel_rfl) (by kernel_rfl) (fun _ _ _ h=>h) (Or.inl ⟨by kernel_rfl,?hy11⟩) (by assumption) ?rest11
   case hy11=>(intro x hSx;(try dsimp only at hSx);obtain⟨s0,s1,s2,s3,s4,s5,s6,s7,s8,s9⟩:=hF x hSx;go_simp;first | done | with_reducible rfl)
   try simp only[Act.put]
   refine wpAnyH_done (by kernel_rfl) ?_ _
   go_wp2
   go_roundw
   case rel=>exact⟨k+1,_,by omega,by simp,hEF,hbF.1⟩
   case measure=>simp only[intOf];omega
  ·have hkl:es.take k=es:=List.take_of_length_le (by rw[HES.out];omega)
   rw[hkl] at hEO
   have hbF:=hb13.trans (hbr.mono hb13.size)
   have hEF:=hEO.mono hb13.size
   clear hcell hsp hesg
   go_wp2_with fail
   go_ret
   exact⟨_,vs,es,rfl,hEF,hR,hP,hbF⟩
end Go.Proofs.YtfhpgmlfgjfknaaGreatDoor
namespace Go.Proofs.YtfhpgmlfgjfknaaGreatDoor
open Go.RowKit Go.Vf Go.Maps
set_option maxHeartbeats 4000000 in
set_option maxRecDepth 20000 in
theorem abu (u base:Nat)(hu:u≤1114111)(v:Value)(acc:List UInt8)(w:World)(hown:BOwn 5 w base v acc)(hacc:acc.length≤1000000000)(hbase:base≤w.heap.size)(_h6:8<base)(ht:w.cell? ⟨8,15,none⟩=some (.int .u8 4)):
  Calls Tryz.prog 161 #[v,.int .i64 (u:Int)] w fun e w'=> ∃v',e=.returned v'∧BOwn 5 w' base v' (acc++aae u)∧Below base w w'∧base≤w'.heap.size∧KO w w':=by
 have hu8:u<16^8:=by omega
 have hl6:=af4 u 6 (by omega) (by omega)
 obtain⟨a0,c0,rfl⟩:=abn hown
 go_enter Tryz.func161,Tryz.ntmps161
 go_wp2_with fail
 refine(avt u hu8 w ht).mono ?_
 rintro e w1 ⟨rfl,hb1⟩
 go_wp2_with fail
 refine(Tryz.strings_ToUpper_ascii (bsz (aca u)) w1 (by simp[ByteArray.size];omega) (fun j b hj=>ake u b (List.mem_of_getElem? (by simpa[bsz] using hj)))).mono ?_
 rw[show (bsz (aca u)).data.toList=aca u by simp]
 rintro e w2 ⟨rfl,hb2⟩
 have hown2:=ahr (ahr hown hb1) hb2
 have hbw2:Below base w w2:=(hb1.mono hbase).trans (hb2.mono (Nat.le_trans hbase hb1.size))
 have hsz2:base≤w2.heap.size:=Nat.le_trans hbase (Nat.le_trans hb1.size hb2.size)
 have hko2:KO w w2:=(KO.of_below hb1).trans (KO.of_below hb2)
 have HU:Hid (aae u=List.replicate (4-(aa1 u).length) 48++aa1 u):=rfl
 have hul:(aa1 u).length≤6:=by unfold aa1;rw[afg];exact hl6
 have hsz:(bsz (aa1 u)).size=(aa1 u).length:=by simp[ByteArray.size]
 rw[show (⟨(Lib.toUpperA (aca u)).toArray⟩:ByteArray)=bsz (aa1 u) from rfl]
 generalize aa1 u=up at HU hul hsz⊢
 clear hown hl6 hb1 hb2
 go_wp2_with fail
 go_loopw [0,12] (fun v i wr=> ∃(k:Nat),i=.int .i64 k∧k≤4-up.length∧BOwn 5 wr base v (acc++List.replicate k 48)∧Below base w wr∧base≤wr.heap.size∧Hid (KO w wr)) (fun _ i _=>4-up.length-(intOf i).toNat)
 case atStart=>exact⟨0,rfl,by omega,by simpa using hown2,hbw2,hsz2,hko2⟩
 case round=>
  obtain⟨k,rfl,hk,hown,hbel,hsz3,HKO⟩:=hrel
  have hll:(acc++List.replicate k 48).length≤1099511627776:=by simp;omega
  by_cases hlt:k+up.length<4
  ·have HR:Hid ((acc++List.replicate k 48)++[48]=acc++List.replicate (k+1) 48):=by show _=_;rw[List.append_assoc,List.replicate_succ']
   go_wp2_with (first | (at_builtin;refine aap rfl _ _ rfl base _ (acc++List.replicate k 48) rfl hown 48 _ rfl _ rfl hll hsz3 w hbel HKO.out ?_;intro v3 w3 hown3 hbel3 hsz4 hko3))
   go_roundw
   case rel=>exact⟨k+1,by simp,by omega,by rw[←HR.out];exact hown3,hbel3,hsz4,hko3⟩
   case measure=>simp only[intOf];omega
  ·have hk2:k=4-up.length:=by omega
   have HF:Hid ((acc++List.replicate k 48)++up=acc++aae u):=by show _=_;rw[HU.out,hk2,List.append_assoc]
   have hl2:(acc++List.replicate k 48).length+up.length≤1099511627776:=by simp;omega
   clear hk2
   go_wp2_with (first | (at_builtin;refine afe rfl _ _ rfl base _ (acc++List.replicate k 48) rfl hown up rfl hl2 hsz3 ?_;intro v3 w3 hown3 hbel3 hsz4 hko3))
   go_ret
   exact⟨v3,rfl,by rw[←HF.out];exact hown3,hbel.trans hbel3,hsz4,HKO.out.trans hko3⟩
end Go.Proofs.YtfhpgmlfgjfknaaGreatDoor
