/- Contracts and lemmas (nothing is claimed here). -/
import Derived.Test.YtpfkoldfbecdlaaGreatDoorJ6
import Derived.Test.YtpfkoldfbecdlaaGreatDoorJ1
import Derived.Lib.Case
import Derived.WalkKit
namespace Go.Proofs.YtpfkoldfbecdlaaGreatDoor
open Go.RowKit Go.Vf Go.Maps
theorem load_idle (p q r:Addr)(w:World):
  CallsD Tryz.prog 40 #[.pointer (some p),.pointer (some q),.pointer (some r)] .returning w fun e u' w'=>e=.returned (.tuple #[])∧u'=.returning∧w'=w:=by
 refine callsD_of_wpS Tryz.func40 rfl fun c₀ cs hu=> ?_
 apply wpS_seq
 apply wpS_region
 simp[wpOpsS,go_sem,recoverD,hu,Tryz.ntmps40,Exit.thenS]
 apply wpS_seq
 apply wpS_region
 simp[wpOpsS,go_sem,Exit.thenS]
 refine wpS_cond (t:=false) (by simp[Act.eval,Array.replicate]) ?_
 simp only[Bool.false_eq_true,if_false]
 refine wpS_of_wp (wp_skip ?_)
 cases c₀
 simp_all [bodyPostS,results,Tryz.results40]
structure Three (w:World)(h:Nat)(d:Option Addr)(e n:Int):Prop where
 b0:Blk w h 58 #[.pointer d]
 b1:Blk w (h+1) 23 #[.int .i64 e]
 b2:Blk w (h+1+1) 3 #[.int .i64 n]
theorem Three.lt {w:World}{h:Nat}{d:Option Addr}{e n:Int}(h3:Three w h d e n):h+1+1<w.heap.size:=h3.b2.lt
theorem Three.below {w w':World}{B h:Nat}{d:Option Addr}{e n:Int}(h3:Three w h d e n)(hb:Below B w w')(hB:h+1+1<B):Three w' h d e n:=
 ⟨h3.b0.below hb (by omega),h3.b1.below hb (by omega),h3.b2.below hb hB⟩
theorem Three.set {w:World}{h:Nat}{d:Option Addr}{e n:Int}(h3:Three w h d e n)(d':Option Addr)(e' n':Int):
  Three (((w.setCell ⟨h,0,none⟩ (.pointer d')).setCell ⟨h+1,0,none⟩ (.int .i64 e')).setCell ⟨h+1+1,0,none⟩ (.int .i64 n')) h d' e' n'∧
  Below h w (((w.setCell ⟨h,0,none⟩ (.pointer d')).setCell ⟨h+1,0,none⟩ (.int .i64 e')).setCell ⟨h+1+1,0,none⟩ (.int .i64 n')):=by
 refine⟨⟨?_,?_,?_⟩,?_⟩
 ·have:=h3.b0.set 0 (.pointer d')
  refine((Below.heap_setCell _ ⟨h+1+1,0,none⟩ _ h (by show h≠h+1+1;omega)).trans ((Below.heap_setCell _ ⟨h+1,0,none⟩ _ h (by show h≠h+1;omega)).trans ?_))
  simpa[Blk] using this
 ·have h1:Blk (w.setCell ⟨h,0,none⟩ (.pointer d')) (h+1) 23 #[.int .i64 e]:=(Below.heap_setCell _ ⟨h,0,none⟩ _ (h+1) (by show h+1≠h;omega)).trans h3.b1
  have:=h1.set 0 (.int .i64 e')
  refine((Below.heap_setCell _ ⟨h+1+1,0,none⟩ _ (h+1) (by show h+1≠h+1+1;omega)).trans ?_)
  simpa[Blk] using this
 ·have h1:Blk ((w.setCell ⟨h,0,none⟩ (.pointer d')).setCell ⟨h+1,0,none⟩ (.int .i64 e')) (h+1+1) 3 #[.int .i64 n]:=(Below.heap_setCell _ ⟨h+1,0,none⟩ _ (h+1+1) (by show h+1+1≠h+1;omega)).trans ((Below.heap_setCell _ ⟨h,0,none⟩ _ (h+1+1) (by show h+1+1≠h;omega)).trans h3.b2)
  have:=h1.set 0 (.int .i64 n')
  simpa[Blk] using this
 ·exact(((Below.refl h w).setCell (p:=⟨h,0,none⟩) (Nat.le_refl _) _).setCell (p:=⟨h+1,0,none⟩) (Nat.le_succ _) _).setCell (p:=⟨h+1+1,0,none⟩) (by show h≤h+1+1;omega) _
structure ThreeC (w:World)(h:Nat)(d:Option Addr)(e n:Int):Prop where
 c0:w.cell? ⟨h,0,none⟩=some (.pointer d)
 c1:w.cell? ⟨h+1,0,none⟩=some (.int .i64 e)
 c2:w.cell? ⟨h+1+1,0,none⟩=some (.int .i64 n)
 f0:w.frozen? ⟨h,0,none⟩=false
 f1:w.frozen? ⟨h+1,0,none⟩=false
 f2:w.frozen? ⟨h+1+1,0,none⟩=false
theorem Three.cells {w:World}{h:Nat}{d:Option Addr}{e n:Int}(h3:Three w h d e n):ThreeC w h d e n:=
 ⟨h3.b0.cell 0,h3.b1.cell 0,h3.b2.cell 0,h3.b0.frozen 0,h3.b1.frozen 0,h3.b2.frozen 0⟩
set_option maxHeartbeats 1000000 in
theorem load_catch (h:Nat)(why line:Int)(d:Option Addr)(e0 n0:Int)(w:World)(h3:Three w h d e0 n0):
  CallsD Tryz.prog 40 #[.pointer (some ⟨h,0,none⟩),.pointer (some ⟨h+1,0,none⟩),.pointer (some ⟨h+1+1,0,none⟩)] (.panicking [{v:=lostV why line,recovered:=false}]) w fun e u' w'=>
   e=.returned (.tuple #[])∧u'=.panicking [{v:=lostV why line,recovered:=true}]∧Three w' h none why line∧Below h w w':=by
 have hta: ∀w:World,(Instr.typeAssert (lostV why line) 20 100 false).run Tryz.prog w=.ok (.agg #[.int .i64 why,.int .i64 line]) w:=fun w=>by kernel_rfl
 have hb0:=(Below.refl w.heap.size w).alloc (Nat.le_refl _) (.cells #[.int .i64 why,.int .i64 line] 100)
 have b0:(w.alloc (.cells #[.int .i64 why,.int .i64 line] 100)).cell? ⟨w.heap.size,0,none⟩=some (.int .i64 why):=by simp
 have b1:(w.alloc (.cells #[.int .i64 why,.int .i64 line] 100)).cell? ⟨w.heap.size,1,none⟩=some (.int .i64 line):=by simp
 refine callsD_of_wpS Tryz.func40 rfl fun c₀ cs hu=> ?_
 apply wpS_seq
 apply wpS_region
 simp[wpOpsS,go_sem,recoverD,hu,Tryz.ntmps40,Exit.thenS,Array.replicate]
 apply wpS_seq
 apply wpS_region
 simp[wpOpsS,go_sem,Exit.thenS]
 refine wpS_cond (t:=true) (by simp[Act.eval]) ?_
 simp only[if_true]
 refine wpS_of_wp ?_
 go_wp2
 have h3':=h3.below hb0 h3.lt
 generalize w.alloc (.cells #[.int .i64 why,.int .i64 line] 100)=W at hb0 b0 b1 h3'⊢
 have h4:=h3'.set none why line
 have hne: ¬w.heap.size=h:=by have:=h3.lt;omega
 have hne1: ¬w.heap.size=h+1:=by have:=h3.lt;omega
 have hne2: ¬w.heap.size=h+1+1:=by have:=h3.lt;omega
 have hne3: ¬h=w.heap.size:=by omega
 have hne4: ¬h+1=w.heap.size:=by omega
 have hne5: ¬h+1+1=w.heap.size:=by omega
 have hbW:Below h w W:=hb0.mono (by have:=h3.lt;omega)
 obtain⟨c0,c1,c2,f0,f1,f2⟩:=h3'.cells
 clear h3 h3'
 go_region
 exact⟨rfl,_,rfl,_,by simp[results,Tryz.results40],rfl,rfl,⟨h4.1.b0,h4.1.b1,h4.1.b2⟩,(hbW.trans h4.2).drew⟩
theorem aey {tmps:Array Value}{w:World}{h:Nat}{d:Option Addr}{e n:Int}(h3:Three w h d e n)(t2:tmps[2]?.getD undef=.pointer (some ⟨h,0,none⟩))(t3:tmps[3]?.getD undef=.pointer (some ⟨h+1,0,none⟩))(t4:tmps[4]?.getD undef=.pointer (some ⟨h+1+1,0,none⟩)):
  (results Tryz.f17 tmps).run Tryz.prog w=.ok (.tuple #[.pointer d,.int .i64 e,.int .i64 n]) w:=by
 obtain⟨c0,c1,c2,f0,f1,f2⟩:=h3.cells
 simp[results,Tryz.results17,go_sem,t2,t3,t4,c0,c1,c2]
theorem Three.setD {w:World}{h:Nat}{d:Option Addr}{e n:Int}(h3:Three w h d e n)(d':Option Addr):Three (w.setCell ⟨h,0,none⟩ (.pointer d')) h d' e n:=
 ⟨by simpa[Blk] using h3.b0.set 0 (.pointer d'),(Below.heap_setCell _ ⟨h,0,none⟩ _ (h+1) (by show h+1≠h;omega)).trans h3.b1,(Below.heap_setCell _ ⟨h,0,none⟩ _ (h+1+1) (by show h+1+1≠h;omega)).trans h3.b2⟩
theorem RD.setLow {w:World}{base b bm:Nat}{line:Int}{vp:Value}{pv:Int→Value}{L:List Mk}(h:RD w base b bm line vp pv L){p:Addr}(hp:p.block<base)(u:Value):RD (w.setCell p u) base b bm line vp pv L:=
 ⟨(Below.heap_setCell w p u b (by have:=h.bge;omega)).trans h.blk,h.bge,h.mge,h.mp.setCell (by have:=h.mge;omega) u,fun m hm=>aan (h.parts m hm) hp u,aan h.places hp u⟩
theorem blk_ne {w:World}{b1 b2:Nat}{t1 t2:TypeId}{c1 c2:Array Value}(h1:Blk w b1 t1 c1)(h2:Blk w b2 t2 c2)(ht:t1≠t2):b1≠b2:=by
 rintro rfl
 have e:=(show w.heap[b1]? =_ from h1).symm.trans h2
 simp only[Option.some.injEq,Obj.cells.injEq] at e
 exact ht e.2.1
def DataAt (w:World)(bd:Nat)(L:List Mk)(E:Int→List Int):Prop:= ∃bm n pv ev,Blk w bd 108 #[.map (some bm)]∧DD w bm n pv ev L E∧n≤3000000∧(L.map Mk.point).Nodup∧L.length≤4096∧ ∀m∈L,MkOk m
theorem DataAt.below {w w':World}{bd:Nat}{L:List Mk}{E:Int→List Int}(h:DataAt w bd L E)(hb:Below w.heap.size w w'):DataAt w' bd L E:=by
 obtain⟨bm,n,pv,ev,h1,h2,h3⟩:=h
 exact⟨bm,n,pv,ev,h1.below hb h1.lt,h2.below hb,h3⟩
def LoadPost (r:Except (Int×Int) (List Mk×(Int→List Int)))(w:World)(e:Ending)(w':World):Prop:=
 Below w.heap.size w w'∧match r with
  | .error (why,line)=>e=.returned (.tuple #[.pointer none,.int .i64 why,.int .i64 line])
  | .ok (L,E)=> ∃bd,e=.returned (.tuple #[.pointer (some ⟨bd,0,none⟩),.int .i64 0,.int .i64 0])∧DataAt w' bd L E
theorem three_new (w:World):Three (((w.alloc (.cells #[.pointer none] 58)).alloc (.cells #[.int .i64 0] 23)).alloc (.cells #[.int .i64 0] 3)) w.heap.size none 0 0:=by
 refine⟨?_,?_,?_⟩
 ·exact(Below.heap_alloc _ _ _ (by simp;omega)).trans ((Below.heap_alloc _ _ _ (by simp)).trans (Blk.new w 58 #[.pointer none]))
 ·have:=Blk.new (w.alloc (.cells #[.pointer none] 58)) 23 #[.int .i64 0]
  rw[show (w.alloc (.cells #[.pointer none] 58)).heap.size=w.heap.size+1 by simp] at this
  exact(Below.heap_alloc _ _ _ (by simp)).trans this
 ·have:=Blk.new ((w.alloc (.cells #[.pointer none] 58)).alloc (.cells #[.int .i64 0] 23)) 3 #[.int .i64 0]
  rw[show ((w.alloc (.cells #[.pointer none] 58)).alloc (.cells #[.int .i64 0] 23)).heap.size=w.heap.size+1+1 by simp] at this
  exact this
theorem rd_new (w:World):RD ((w.alloc (.map #[] 0)).alloc (.cells #[.int .i64 0,.map (some w.heap.size),.slice none 0 0] 104)) w.heap.size (w.heap.size+1) w.heap.size 0 (.slice none 0 0) (fun _=>.slice none 0 0) []:=by
 refine⟨?_,by omega,by omega,(MapAt.made w).alloc _,by simp,World.ownsRow_nil _ _ _ _⟩
 have:=Blk.new (w.alloc (.map #[] 0)) 104 #[.int .i64 0,.map (some w.heap.size),.slice none 0 0]
 rw[show (w.alloc (.map #[] 0)).heap.size=w.heap.size+1 by simp] at this
 exact this
theorem may_in {x:Int}(h:mayB x=true):InI x:=by
 simp[mayB] at h
 unfold InI;omega
theorem RD.md {w:World}{base b bm:Nat}{line:Int}{vp:Value}{pv:Int→Value}{L:List Mk}(h:RD w base b bm line vp pv L)(hok: ∀m∈L,MkOk m)(hs:sumP L≤65537):MD w w.heap.size bm L.length pv L:=
 ⟨h.mp,h.mp.lt,fun m hm=>⟨(h.parts m hm).ints,by have:=sumP_mem hm;omega⟩,fun m hm=>⟨may_in (hok m hm).1,fun q hq=>may_in ((hok m hm).2.1 q hq)⟩⟩
theorem RD.dd {w:World}{base b bm:Nat}{line:Int}{vp:Value}{pv:Int→Value}{L:List Mk}(h:RD w base b bm line vp pv L)(hok: ∀m∈L,MkOk m)(hs:sumP L≤65537):DD w bm L.length pv (fun _=>.slice none 0 0) L (fun _=>[]):=
 ⟨h.mp,fun m hm=>⟨(h.parts m hm).ints,by have:=sumP_mem hm;omega⟩,fun m _=>⟨.inl ⟨_,_,rfl,rfl⟩,by simp⟩,fun m hm=>⟨may_in (hok m hm).1,fun q hq=>may_in ((hok m hm).2.1 q hq)⟩,fun _ _=>rfl⟩
set_option maxHeartbeats 4000000 in
set_option maxRecDepth 20000 in
theorem load_any (s:ByteArray)(m:Int)(w:World)(hm:w.cell? ⟨2,0,none⟩=some (.int .i64 m))(hbig:s.size≤281474976710656):
  Calls Tryz.prog 17 #[.string s] w fun e w'=>LoadPost (aav s.data.toList) w e w':=by
 have hmf: ∀(fn:Fn) (first cap:Array Value) (w:World),(Instr.makeFunc fn first cap).run Tryz.prog w=.ok (.func fn first cap) w:=fun _ _ _ _=>rfl
 have hmm:= @run_makeMap Tryz.prog
 have hsl:s.data.toList.length=s.size:=(Lib.size_eq s).symm
 have hlt0:2<w.heap.size:=World.block_lt_of_cell? w _ hm
 have h3:=three_new w
 have hbel:=(((Below.refl w.heap.size w).alloc (Nat.le_refl _) (.cells #[.pointer none] 58)).alloc (by simp) (.cells #[.int .i64 0] 23)).alloc (by simp;omega) (.cells #[.int .i64 0] 3)
 by_cases hlong:65536<s.size
 ·have hR:aav s.data.toList=.error (2,0):=by unfold aav;rw[if_pos (by omega)]
  rw[hR]
  have h4:=h3.set none 2 0
  obtain⟨c0,c1,c2,f0,f1,f2⟩:=h3.cells
  go_enter_defers Tryz.func17,Tryz.ntmps17
  go_wp2
  simp[bodyPostD,Leaves,results,Tryz.results17,go_sem]
  exact⟨(((Below.refl w.heap.size w).alloc (Nat.le_refl _) _).alloc (by simp) _).alloc (by simp;omega) _,rfl⟩
 ·have hs:s.size≤65536:=by omega
  have hR:aav s.data.toList=match aau (aa7 10 s.data.toList) 0 [] with
   | .error e=>.error e
   | .ok L=>match walkF (aad L) 200000 (L.map Mk.point) TS.empty with
    | none=>.error (0,0)
    | some S=>match L.find? (fun m=>decide (S.loops m.point>0)) with
     | some m=>.error (42,m.line)
     | none=>match L.find? (fun m=>decide (18<(ad8 (adj L) (aad L) S.ord (fun _=>[]) m.point).length)) with
      | some m=>.error (43,m.line)
      | none=>.ok (L,ad8 (adj L) (aad L) S.ord (fun _=>[])):=by unfold aav;rw[if_neg (by omega)];rfl
  have htot:=fun L=>abr (t:=s.data.toList) (L:=L) (by omega)
  generalize hQ:aav s.data.toList=Q at hR
  generalize hLR:aau (aa7 10 s.data.toList) 0 []=LR at hR htot
  have HLR:Hid (aau (aa7 10 s.data.toList) 0 []=LR):=hLR
  have HT:Hid (∀L,LR=.ok L→(∀m∈L,MkOk m)∧(L.map Mk.point).Nodup∧L.length≤4096∧sumP L≤65537∧L.length+sumP L≤200000):=htot
  clear hLR hQ htot
  go_enter_defers Tryz.func17,Tryz.ntmps17
  go_upto_region 4 with fail
  generalize ((w.alloc (.cells #[.pointer none] 58)).alloc (.cells #[.int .i64 0] 23)).alloc (.cells #[.int .i64 0] 3)=W3 at h3 hbel⊢
  have hlt3:=h3.lt
  have hrd:=rd_new W3
  have hb5:Below W3.heap.size W3 ((W3.alloc (.map #[] 0)).alloc (.cells #[.int .i64 0,.map (some W3.heap.size),.slice none 0 0] 104)):=((Below.refl _ W3).alloc (Nat.le_refl _) _).alloc (by simp) _
  have hm5:=(hb5.cell (p:=⟨2,0,none⟩) (by show 2<W3.heap.size;omega)).trans ((hbel.cell (p:=⟨2,0,none⟩) hlt0).trans hm)
  have h35:=h3.below hb5 hlt3
  go_wp2_with fail
  generalize (W3.alloc (.map #[] 0)).alloc (.cells #[.int .i64 0,.map (some W3.heap.size),.slice none 0 0] 104)=W5 at hrd hb5 hm5 h35⊢
  generalize W3.heap.size+1=br at hrd⊢
  refine(readLines_any W3.heap.size br W3.heap.size s m _ _ W5 hs (by omega) hm5 hb5.size hrd).mono ?_
  rw[HLR.out]
  rintro e w6 ⟨hb6,hpost⟩
  have h36:=h35.below hb6 hlt3
  have hbw6:Below w.heap.size w w6:=hbel.trans ((hb5.trans hb6).mono hbel.size)
  have hs36:W3.heap.size≤w6.heap.size:=(hb5.trans hb6).size
  clear hrd hb5 hm5 h35 HLR
  cases LR with
  | error q=>
   obtain⟨why,line⟩:=q
   obtain rfl:=hpost
   have HQ:Hid (Q=.error (why,line)):=hR
   clear hR
   go_wp2
   refine leaves_cons (f:=40) (args:= #[.pointer (some ⟨w.heap.size,0,none⟩),.pointer (some ⟨w.heap.size+1,0,none⟩),.pointer (some ⟨w.heap.size+1+1,0,none⟩)]) (by simp) (by simp[go_sem]) ?_
   refine(load_catch w.heap.size why line _ _ _ _ h36).mono ?_
   rintro e u' w'' ⟨rfl,rfl,h4,hb4⟩
   exact⟨_,aey h4 rfl rfl rfl,hbw6.trans hb4,by rw[HQ.out]⟩
  | ok L=>
   obtain⟨rfl,n,vp,pv,hrd6,hL4⟩:=hpost
   obtain⟨hok,hnd,hlen,hsum,htot⟩:=HT.out L rfl
   obtain⟨S,hw,hinv,hmet⟩:=ae5 htot
   simp only[hw] at hR
   have c1:=hrd6.c1
   have c2:=hrd6.c2
   obtain⟨av,cv,rfl⟩:=aba hrd6.places
   have hmd6:=hrd6.md hok hsum
   have HR:Hid (Q=match L.find? (fun m=>decide (S.loops m.point>0)) with
     | some m=>.error (42,m.line)
     | none=>match L.find? (fun m=>decide (18<(ad8 (adj L) (aad L) S.ord (fun _=>[]) m.point).length)) with
      | some m=>.error (43,m.line)
      | none=>.ok (L,ad8 (adj L) (aad L) S.ord (fun _=>[]))):=hR
   have HW:Hid (walkF (aad L) 200000 (L.map Mk.point) TS.empty=some S):=hw
   clear hR hw HT
   go_wp2_with fail
   refine(needNoLoop_any W3.heap.size L.length 200000 _ pv L S w6 hlen (PL.of hrd6.places) hmd6 HW.out).mono ?_
   rintro e w7 ⟨hb7,hpost7⟩
   have h37:=h36.below hb7 (by omega)
   have hbw7:Below w.heap.size w w7:=hbw6.trans (hb7.mono hbw6.size)
   have hrd7:=hrd6.below hb7
   cases hF:L.find? (fun m=>decide (S.loops m.point>0)) with
   | some mk=>
    rw[hF] at hpost7
    obtain rfl:=hpost7
    have HQ:Hid (Q=.error (42,mk.line)):=by show _=_;rw[HR.out,hF]
    clear HR HW
    go_wp2
    refine leaves_cons (f:=40) (args:= #[.pointer (some ⟨w.heap.size,0,none⟩),.pointer (some ⟨w.heap.size+1,0,none⟩),.pointer (some ⟨w.heap.size+1+1,0,none⟩)]) (by simp) (by simp[go_sem]) ?_
    refine(load_catch w.heap.size 42 mk.line _ _ _ _ h37).mono ?_
    rintro e u' w'' ⟨rfl,rfl,h4,hb4⟩
    exact⟨_,aey h4 rfl rfl rfl,hbw7.trans hb4,by rw[HQ.out]⟩
   | none=>
    rw[hF] at hpost7
    obtain⟨a7,k7,c7,rfl,hord7,hol7,hoI7⟩:=hpost7
    have HR2:Hid (Q=match L.find? (fun m=>decide (18<(ad8 (adj L) (aad L) S.ord (fun _=>[]) m.point).length)) with
      | some m=>.error (43,m.line)
      | none=>.ok (L,ad8 (adj L) (aad L) S.ord (fun _=>[]))):=by show _=_;rw[HR.out,hF]
    have d1:=hrd7.c1
    have hb8a:=(Below.refl w7.heap.size w7).alloc (Nat.le_refl _) (.cells #[.map (some W3.heap.size)] 108)
    have h38a:=h37.below hb8a h37.lt
    have hbd8a:=Blk.new w7 108 #[.map (some W3.heap.size)]
    have hrd8a:=hrd7.below hb8a
    have hord8a:=aac hord7 hb8a
    obtain⟨q0,_,_,f0,_,_⟩:=h38a.cells
    have h38:=h38a.setD (some ⟨w7.heap.size,0,none⟩)
    have hlth:w.heap.size<W3.heap.size:=by omega
    have hrd8:=hrd8a.setLow (p:=⟨w.heap.size,0,none⟩) hlth (.pointer (some ⟨w7.heap.size,0,none⟩))
    have hord8:=aan hord8a (p:=⟨w.heap.size,0,none⟩) (by show w.heap.size<w6.heap.size;omega) (.pointer (some ⟨w7.heap.size,0,none⟩))
    have hbd8:Blk ((w7.alloc (.cells #[.map (some W3.heap.size)] 108)).setCell ⟨w.heap.size,0,none⟩ (.pointer (some ⟨w7.heap.size,0,none⟩))) w7.heap.size 108 #[.map (some W3.heap.size)]:=(Below.heap_setCell _ ⟨w.heap.size,0,none⟩ _ w7.heap.size (by show w7.heap.size≠w.heap.size;have:=hb7.size;omega)).trans hbd8a
    have hbw8:Below w.heap.size w ((w7.alloc (.cells #[.map (some W3.heap.size)] 108)).setCell ⟨w.heap.size,0,none⟩ (.pointer (some ⟨w7.heap.size,0,none⟩))):=(hbw7.trans (hb8a.mono hbw7.size)).setCell (p:=⟨w.heap.size,0,none⟩) (Nat.le_refl _) _
    have q8:((w7.alloc (.cells #[.map (some W3.heap.size)] 108)).setCell ⟨w.heap.size,0,none⟩ (.pointer (some ⟨w7.heap.size,0,none⟩))).cell? ⟨w.heap.size,0,none⟩=some (.pointer (some ⟨w7.heap.size,0,none⟩)):=h38.b0.cell 0
    have hsz38:W3.heap.size≤((w7.alloc (.cells #[.map (some W3.heap.size)] 108)).setCell ⟨w.heap.size,0,none⟩ (.pointer (some ⟨w7.heap.size,0,none⟩))).heap.size:=by have:=hb7.size;simp;omega
    have hsz8:w7.heap.size≤((w7.alloc (.cells #[.map (some W3.heap.size)] 108)).setCell ⟨w.heap.size,0,none⟩ (.pointer (some ⟨w7.heap.size,0,none⟩))).heap.size:=by simp
    clear HR HW c1 c2 hF hmd6 h38a hbd8a hrd8a hord8a hb8a
    go_upto_region 8 with fail
    generalize (w7.alloc (.cells #[.map (some W3.heap.size)] 108)).setCell ⟨w.heap.size,0,none⟩ (.pointer (some ⟨w7.heap.size,0,none⟩))=W8 at h38 hrd8 hord8 hbd8 hbw8 q8 hsz8 hsz38⊢
    generalize w7.heap.size=bd at h38 hbd8 q8 hsz8⊢
    have hk7:k7=S.ord.length:=by
     obtain⟨a',c',e'⟩:=hord7.val
     simp only[Value.slice.injEq] at e'
     exact e'.2.1
    have HK7:Hid (k7=S.ord.length):=hk7
    have hk7l:k7≤1000000:=by omega
    clear hk7 d1 q0 f0 hord7 hrd7 h37 hrd6 h36 h3
    go_wp2_with fail
    refine(fillEnds_any bd W3.heap.size L.length pv (fun _=>.slice none 0 0) L (fun _=>[]) a7 k7 c7 S.ord W8 hoI7 hbd8 (hrd8.dd hok hsum) (IOwn.ints hord8) HK7.out hk7l (by omega) (fun _=>Above.nil _)).mono ?_
    rintro e w9 ⟨rfl,⟨n9,ev9,hdd9,hn9,hab9⟩,hg9⟩
    have hmp8:=hrd8.mp
    have h39:Three w9 w.heap.size (some ⟨bd,0,none⟩) 0 0:=⟨(hg9.block _ h38.b0.lt (fun e=>aaq h38.b0 hmp8 (by simpa using e))).trans h38.b0,(hg9.block _ h38.b1.lt (fun e=>aaq h38.b1 hmp8 (by simpa using e))).trans h38.b1,(hg9.block _ h38.b2.lt (fun e=>aaq h38.b2 hmp8 (by simpa using e))).trans h38.b2⟩
    have hbd9:Blk w9 bd 108 #[.map (some W3.heap.size)]:=(hg9.block bd hbd8.lt (fun e=>aaq hbd8 hmp8 (by simpa using e))).trans hbd8
    have hbr9:Blk w9 br 104 #[.int .i64 n,.map (some W3.heap.size),.slice av L.length cv]:=(hg9.block br (show Blk W8 br 104 _ from hrd8.blk).lt (fun e=>aaq hrd8.blk hmp8 (by simpa using e))).trans hrd8.blk
    have hpl9:PL w9 (.slice av L.length cv) L:=PL.of (adx hrd8.places hmp8 hg9)
    have hbw9:Below w.heap.size w w9:=hbw8.grown hg9 hbw8.size (fun j hj=>by cases hj;omega)
    have q9:w9.cell? ⟨w.heap.size,0,none⟩=some (.pointer (some ⟨bd,0,none⟩)):=h39.b0.cell 0
    have r9:w9.cell? ⟨br,2,none⟩=some (.slice av L.length cv):=hbr9.cell 2
    have hsz9:W3.heap.size≤w9.heap.size:=by have:=hg9.size;omega
    have hpab: ∀m∈L,Above W3.heap.size (pv m.point):=fun m hm=>(hrd8.parts m hm).above
    clear q8 hord8
    generalize hE9:ad8 (adj L) (aad L) S.ord (fun _=>[])=E9 at hdd9
    rw[hE9] at HR2
    clear hE9
    go_wp2_with fail
    refine(needShort_any bd W3.heap.size n9 pv ev9 L E9 _ w9 hlen hbd9 hdd9 hpl9).mono ?_
    rintro e w10 ⟨hb10,hpost10⟩
    have h310:=h39.below hb10 h39.lt
    have hbw10:=hbw9.trans (hb10.mono hbw9.size)
    have hdd10:=hdd9.below hb10
    have hbd10:=hbd9.below hb10 hbd9.lt
    cases hF2:L.find? (fun m=>decide (18<(E9 m.point).length)) with
    | some mk=>
     rw[hF2] at hpost10
     obtain rfl:=hpost10
     have HQ:Hid (Q=.error (43,mk.line)):=by show _=_;rw[HR2.out,hF2]
     clear HR2 q9 r9
     go_wp2
     refine leaves_cons (f:=40) (args:= #[.pointer (some ⟨w.heap.size,0,none⟩),.pointer (some ⟨w.heap.size+1,0,none⟩),.pointer (some ⟨w.heap.size+1+1,0,none⟩)]) (by simp) (by simp[go_sem]) ?_
     refine(load_catch w.heap.size 43 mk.line _ _ _ _ h310).mono ?_
     rintro e u' w'' ⟨rfl,rfl,h4,hb4⟩
     exact⟨_,aey h4 rfl rfl rfl,hbw10.trans hb4,by rw[HQ.out]⟩
    | none=>
     rw[hF2] at hpost10
     obtain rfl:=hpost10
     have HQ:Hid (Q=.ok (L,E9)):=by show _=_;rw[HR2.out,hF2]
     have h4:=h310.set (some ⟨bd,0,none⟩) 0 0
     obtain⟨z0,z1,z2,zf0,zf1,zf2⟩:=h310.cells
     have hab': ∀x,Above W3.heap.size (ev9 x):=fun x=>(hab9 x).mono hsz38
     have HD:Hid (DataAt ((((w10.setCell ⟨w.heap.size,0,none⟩ (.pointer (some ⟨bd,0,none⟩))).setCell ⟨w.heap.size+1,0,none⟩ (.int .i64 0)).setCell ⟨w.heap.size+1+1,0,none⟩ (.int .i64 0))) bd L E9):=by
      refine⟨W3.heap.size,n9,pv,ev9,?_,?_,by omega,hnd,hlen,hok⟩
      ·refine(Below.heap_setCell _ ⟨w.heap.size+1+1,0,none⟩ _ bd ?_).trans ((Below.heap_setCell _ ⟨w.heap.size+1,0,none⟩ _ bd ?_).trans ((Below.heap_setCell _ ⟨w.heap.size,0,none⟩ _ bd ?_).trans hbd10))
       ·exact blk_ne hbd10 h310.b2 (by decide)
       ·exact blk_ne hbd10 h310.b1 (by decide)
       ·exact blk_ne hbd10 h310.b0 (by decide)
      ·exact((hdd10.setLow hpab hab' (Nat.le_refl _) (p:=⟨w.heap.size,0,none⟩) (by show w.heap.size<_;omega) _).setLow hpab hab' (Nat.le_refl _) (p:=⟨w.heap.size+1,0,none⟩) (by show w.heap.size+1<_;omega) _).setLow hpab hab' (Nat.le_refl _) (p:=⟨w.heap.size+1+1,0,none⟩) (by show w.heap.size+1+1<_;omega) _
     clear HR2 q9 r9 hdd10 hdd9 hbd10 h310 h39
     go_wp2
     refine leaves_cons (f:=40) (args:= #[.pointer (some ⟨w.heap.size,0,none⟩),.pointer (some ⟨w.heap.size+1,0,none⟩),.pointer (some ⟨w.heap.size+1+1,0,none⟩)]) (by simp) (by simp[go_sem]) ?_
     refine(load_idle _ _ _ _).mono ?_
     rintro e u' w'' ⟨rfl,rfl,rfl⟩
     exact⟨_,aey h4.1 rfl rfl rfl,hbw10.trans h4.2,by rw[HQ.out];exact⟨bd,rfl,HD.out⟩⟩
end Go.Proofs.YtpfkoldfbecdlaaGreatDoor
namespace Go.Vf
def acf (n:Int):Bool:=decide (0≤n)&&decide (n≤1114111)&&(decide (n<55296)||decide (57343<n))
structure El where
 va:Bool
 pr:Int
 se:Int
 te:Int
deriving DecidableEq
abbrev Ent:=List Int×List El
def wtB (n:Int):Bool:=decide (0≤n)&&decide (n≤65535)
def aai (e:El):Bool:=
 wtB e.pr&&wtB e.se&&wtB e.te&&decide (e.pr≤64319)&& !(decide (e.pr≠0)&&decide (e.se=0))&& !(decide (e.se≠0)&&decide (e.te=0))&&(decide (e.pr≠0)|| !e.va)
def hexN (s:List UInt8):Option Nat:=acs adb 16 s 0
def ptR (s:List UInt8):Option Int:=
 if s.length=4∨(4<s.length∧s.length≤6∧s.head?≠some 48) then (hexN s).map (fun n=>(n:Int)) else none
def ptsR:List (List UInt8)→Option (List Int)
 | []=>some []
 | s::r=>match ptR s with
  | none=>none
  | some p=>match ptsR r with
   | none=>none
   | some l=>some (p::l)
def aec (l:List Int):Bool:=decide (1≤l.length)&&decide (l.length≤8)&&l.all acf
def rowR (s:List UInt8):Option (List Int):=match ptsR (aa7 32 s) with
 | none=>none
 | some l=>if aec l then some l else none
def afe (s:List UInt8):Option Int:=match hexN s with
 | none=>none
 | some n=>if s.length=4 then some (n:Int) else none
def aeq (va:Bool):List (List UInt8)→Option El
 | [a,b,c]=>match afe a with
  | none=>none
  | some x=>match afe b with
   | none=>none
   | some y=>match afe c with
    | none=>none
    | some z=>some ⟨va,x,y,z⟩
 | _=>none
def elR (s:List UInt8):Option El:=
 if s[0]? =some 91∧(s[1]? =some 46∨s[1]? =some 42)∧s[16]? =some 93 then aeq (s[1]? ==some 42) (aa7 46 ((s.drop 2).take 14)) else none
def elsL:Nat→List UInt8→Option (List El)
 | 0,_=>some []
 | n+1,s=>match elR (s.take 17) with
  | none=>none
  | some e=>match elsL n (s.drop 17) with
   | none=>none
   | some l=>some (e::l)
def elsR (s:List UInt8):Option (List El):=if s=[]∨272<s.length∨s.length % 17≠0 then none else elsL (s.length/17) s
def cut1 (c:UInt8):List UInt8→List UInt8×List UInt8
 | []=>([],[])
 | b::r=>if b=c then ([],r) else (b::(cut1 c r).1,(cut1 c r).2)
def ad9 (s:List UInt8):Option Ent:=match rowR (cut1 59 s).1 with
 | none=>none
 | some p=>match elsR (cut1 59 s).2 with
  | none=>none
  | some l=>some (p,l)
def hasT (E:List Ent)(p:List Int):Bool:=E.any (fun e=>e.1==p)
def ae9:List (List UInt8)→Int→List Ent→Except (Int×Int) (List Ent)
 | [],_,acc=>.ok acc
 | s::r,n,acc=>
  if aaz s then ae9 r (n+1) acc else
  match ad9 s with
  | none=>.error (60,n+1)
  | some x=>
   if x.2.all aai then
    if hasT acc x.1 then .error (61,n+1)
    else if 4096≤acc.length then .error (2,n+1)
    else ae9 r (n+1) (acc++[x])
   else .error (62,n+1)
def ado (s:List UInt8):Except (Int×Int) (List Ent):=if 65536<s.length then .error (2,0) else ae9 (aa7 10 s) 0 []
def acm (E:List Ent)(p:List Int):Option (List El):=(E.find? (fun e=>e.1==p)).map Prod.snd
def abw:List Ent→Int→Nat
 | [],_=>0
 | e::r,x=>if e.1.head? =some x then max e.1.length (abw r x) else abw r x
structure EntOk (x:Ent):Prop where
 row:aec x.1=true
 n0:1≤x.2.length
 n1:x.2.length≤16
 ok:x.2.all aai=true
theorem rowR_ok {s:List UInt8}{p:List Int}(h:rowR s=some p):aec p=true:=by
 unfold rowR at h
 split at h
 ·cases h
 ·split at h
  ·cases h;assumption
  ·cases h
theorem elsL_len: ∀(n:Nat) (s:List UInt8) (l:List El),elsL n s=some l→l.length=n:=by
 intro n
 induction n with
 | zero=>intro s l h;simp[elsL] at h;subst h;rfl
 | succ n ih=>
  intro s l h
  unfold elsL at h
  split at h
  ·cases h
  ·split at h
   ·cases h
   ·rename_i q e
    cases h
    simp[ih _ _ e]
theorem elsR_len {s:List UInt8}{l:List El}(h:elsR s=some l):1≤l.length∧l.length≤16∧l.length*17=s.length:=by
 unfold elsR at h
 split at h
 ·cases h
 ·rename_i hc
  have hl:=elsL_len _ _ _ h
  have h0:s.length≠0:=fun e=>hc (.inl (List.eq_nil_of_length_eq_zero e))
  omega
theorem entR_ok {s:List UInt8}{x:Ent}(h:ad9 s=some x):aec x.1=true∧1≤x.2.length∧x.2.length≤16:=by
 unfold ad9 at h
 split at h
 ·cases h
 ·rename_i p e1
  split at h
  ·cases h
  ·rename_i l e2
   cases h
   exact⟨rowR_ok e1,(elsR_len e2).1,(elsR_len e2).2.1⟩
theorem hasT_false {E:List Ent}{p:List Int}(h:hasT E p=false):p∉E.map Prod.fst:=by
 intro hp
 obtain⟨e,he,rfl⟩:=List.mem_map.1 hp
 unfold hasT at h
 rw[List.any_eq_false] at h
 exact h e he (by simp)
theorem hasT_find (E:List Ent)(p:List Int):hasT E p=(acm E p).isSome:=by
 unfold hasT acm
 rw[Option.isSome_map,Bool.eq_iff_iff,List.any_eq_true,List.find?_isSome]
theorem tabL_ok: ∀(ls:List (List UInt8)) (n:Int) (acc E:List Ent),ae9 ls n acc=.ok E→(∀x∈acc,EntOk x)→(acc.map Prod.fst).Nodup→acc.length≤4096→(∀x∈E,EntOk x)∧(E.map Prod.fst).Nodup∧E.length≤4096:=by
 intro ls
 induction ls with
 | nil=>intro n acc E h h1 h2 h3;simp[ae9] at h;subst h;exact⟨h1,h2,h3⟩
 | cons s r ih=>
  intro n acc E h h1 h2 h3
  unfold ae9 at h
  split at h
  ·exact ih _ _ _ h h1 h2 h3
  ·split at h
   ·cases h
   ·rename_i x hx
    split at h
    ·split at h
     ·cases h
     ·split at h
      ·cases h
      ·rename_i hr ht h4
       have hk:=entR_ok hx
       refine ih _ _ _ h ?_ ?_ (by simp;omega)
       ·intro y hy
        rcases List.mem_append.1 hy with hy | hy
        ·exact h1 y hy
        ·rw[List.mem_singleton] at hy;subst hy;exact⟨hk.1,hk.2.1,hk.2.2,hr⟩
       ·rw[List.map_append,List.nodup_append]
        refine⟨h2,by simp,?_⟩
        intro a ha b hb e
        simp at hb
        subst hb e
        exact hasT_false (by simpa using ht) ha
    ·cases h
theorem loadT_ok {s:List UInt8}{E:List Ent}(h:ado s=.ok E):(∀x∈E,EntOk x)∧(E.map Prod.fst).Nodup∧E.length≤4096:=by
 unfold ado at h
 split at h
 ·cases h
 ·exact tabL_ok _ _ _ _ h (by simp) (by simp) (by simp)
end Go.Vf
namespace Go.Vf
def lowDig (d:Nat):UInt8:=if d<10 then UInt8.ofNat (48+d) else UInt8.ofNat (87+d)
def hexLow (u:Nat):List UInt8:=if u<16 then [lowDig u] else hexLow (u/16)++[lowDig (u % 16)]
termination_by u
decreasing_by omega
theorem hexLow_big {v:Nat}(h:16≤v):hexLow v=hexLow (v/16)++[lowDig (v % 16)]:=by
 rw[hexLow,if_neg (by omega)]
theorem agk {v:Nat}(h: ¬16≤v):hexLow v=[lowDig v]:=by
 rw[hexLow,if_pos (by omega)]
def abp (u:Nat):List UInt8:=Lib.toUpperA (hexLow u)
def aaj (u:Nat):List UInt8:=List.replicate (4-(abp u).length) 48++abp u
theorem hexLow_len: ∀(u k:Nat),u<16^k→0<k→(hexLow u).length≤k:=by
 intro u
 induction u using Nat.strongRecOn with
 | ind u ih=>
  intro k hk h0
  by_cases h:16≤u
  ·rw[hexLow_big h]
   obtain⟨k',rfl⟩: ∃k',k=k'+1:=⟨k-1,by omega⟩
   rw[Nat.pow_succ] at hk
   have hk':0<k':=by
    by_cases e:k'=0
    ·subst e;omega
    ·omega
   have:=ih (u/16) (by omega) k' (by omega) hk'
   simp;omega
  ·rw[agk h];simp;omega
theorem hexLow_ascii: ∀(u:Nat),∀b∈hexLow u,b.toNat<128:=by
 intro u
 induction u using Nat.strongRecOn with
 | ind u ih=>
  have hl: ∀d,d<16→(lowDig d).toNat<128:=by decide
  by_cases h:16≤u
  ·intro b hb
   rw[hexLow_big h] at hb
   rcases List.mem_append.1 hb with hb | hb
   ·exact ih (u/16) (by omega) b hb
   ·simp at hb;subst hb;exact hl _ (Nat.mod_lt _ (by omega))
  ·intro b hb
   rw[agk h] at hb
   simp at hb;subst hb;exact hl _ (by omega)
theorem toUpperA_len (l:List UInt8):(Lib.toUpperA l).length=l.length:=by simp[Lib.toUpperA]
def joinS:List Nat→List UInt8
 | []=>[]
 | [u]=>aaj u
 | u::r=>aaj u++32::joinS r
def acy (d:Nat):UInt8:=Lib.upperB (lowDig d)
theorem upDig_hex: ∀d,d<16→adb (acy d)=some d:=by decide
theorem upDig_zero: ∀d,d<16→acy d=48→d=0:=by decide
theorem upDig_not: ∀d,d<16→acy d≠10∧acy d≠32∧acy d≠59∧acy d≠35:=by decide
theorem hexV_all:((List.range 256).all fun n=>match adb (UInt8.ofNat n) with
  | some d=>decide (d<16)&&(UInt8.ofNat n==acy d)
  | none=>true)=true:=by kernel_rfl
theorem hexV_upDig {c:UInt8}{d:Nat}(h:adb c=some d):d<16∧c=acy d:=by
 have:=List.all_eq_true.1 hexV_all c.toNat (List.mem_range.2 c.toNat_lt)
 rw[show UInt8.ofNat c.toNat=c by simp,h] at this
 simpa using this
def aa8:Nat→Nat→List UInt8
 | 0,_=>[]
 | k+1,n=>aa8 k (n/16)++[acy (n % 16)]
theorem ac8: ∀(k n:Nat),(aa8 k n).length=k:=by
 intro k
 induction k with
 | zero=>intro n;rfl
 | succ k ih=>intro n;simp[aa8,ih]
theorem padHex_mem: ∀(k n:Nat),∀b∈aa8 k n,∃d,d<16∧b=acy d:=by
 intro k
 induction k with
 | zero=>intro n b hb;simp[aa8] at hb
 | succ k ih=>
  intro n b hb
  rw[aa8] at hb
  rcases List.mem_append.1 hb with hb | hb
  ·exact ih _ b hb
  ·simp at hb;exact⟨_,Nat.mod_lt _ (by omega),hb⟩
theorem numB_snoc (v:UInt8→Option Nat)(b:Nat)(c:UInt8): ∀(s:List UInt8) (m:Nat),acs v b (s++[c]) m=match acs v b s m with
  | none=>none
  | some n=>match v c with
   | none=>none
   | some d=>some (n*b+d):=by
 intro s
 induction s with
 | nil=>
  intro m
  simp only[List.nil_append,acs]
  cases v c<;>rfl
 | cons a r ih=>
  intro m
  simp only[List.cons_append,acs]
  cases v a with
  | none=>rfl
  | some d=>exact ih _
theorem agv: ∀(k n m:Nat),acs adb 16 (aa8 k n) m=some (m*16^k+n % 16^k):=by
 intro k
 induction k with
 | zero=>intro n m;simp[aa8,acs,Nat.mod_one]
 | succ k ih=>
  intro n m
  rw[aa8,numB_snoc,ih,upDig_hex _ (Nat.mod_lt _ (by omega))]
  show some _=some _
  congr 1
  have e:= @Nat.mod_mul 16 (16^k) n
  rw[Nat.pow_succ,Nat.mul_comm (16^k) 16,e,Nat.add_mul]
  rw[show m*(16*16^k)=m*16^k*16 by rw[Nat.mul_comm 16,Nat.mul_assoc]]
  omega
theorem pad_numB: ∀(s:List UInt8) (m n:Nat),acs adb 16 s m=some n→ ∃r,r<16^s.length∧n=m*16^s.length+r∧s=aa8 s.length r:=by
 intro s
 induction hk:s.length generalizing s with
 | zero=>
  intro m n h
  have:s=[]:=List.length_eq_zero_iff.1 hk
  subst this
  simp[acs] at h
  exact⟨0,by simp,by simp[h],rfl⟩
 | succ k ih=>
  intro m n h
  have hne:s≠ []:=by intro e;subst e;simp at hk
  obtain⟨t,c,rfl⟩: ∃t c,s=t++[c]:=⟨s.dropLast,s.getLast hne,(List.dropLast_concat_getLast hne).symm⟩
  have hkt:t.length=k:=by simpa using hk
  rw[numB_snoc] at h
  cases h1:acs adb 16 t m with
  | none=>rw[h1] at h;cases h
  | some n'=>
   rw[h1] at h
   cases h2:adb c with
   | none=>rw[h2] at h;cases h
   | some d=>
    rw[h2] at h
    obtain⟨hd,hc⟩:=hexV_upDig h2
    obtain⟨r,hr,hn,ht⟩:=ih t hkt m n' h1
    have hh:n'*16+d=n:=by simpa using h
    refine⟨r*16+d,?_,?_,?_⟩
    ·rw[Nat.pow_succ];omega
    ·rw[←hh,hn,Nat.pow_succ,Nat.add_mul,Nat.mul_assoc];omega
    ·rw[aa8,show(r*16+d)/16=r by omega,show(r*16+d) % 16=d by omega,←ht,hc]
theorem upHex_rec (u:Nat):abp u=if 16≤u then abp (u/16)++[acy (u % 16)] else [acy u]:=by
 unfold abp
 split
 ·rename_i h
  rw[hexLow_big h]
  simp[Lib.toUpperA,acy]
 ·rename_i h
  rw[agk h]
  simp[Lib.toUpperA,acy]
theorem acr (u k:Nat)(h:u<16^k)(h0:0<k):(abp u).length≤k:=by
 unfold abp
 rw[toUpperA_len]
 exact hexLow_len u k h h0
theorem ads: ∀(u k:Nat),(abp u).length≤k→u<16^k:=by
 intro u
 induction u using Nat.strongRecOn with
 | ind u ih=>
  intro k hk
  rw[upHex_rec] at hk
  split at hk
  ·rename_i h
   obtain⟨k',rfl⟩: ∃k',k=k'+1:=⟨k-1,by simp at hk;omega⟩
   have:=ih (u/16) (by omega) k' (by simp at hk;omega)
   rw[Nat.pow_succ];omega
  ·simp at hk
   obtain⟨k',rfl⟩: ∃k',k=k'+1:=⟨k-1,by omega⟩
   have:=Nat.pow_pos (n:=k') (show 0<16 by omega)
   rw[Nat.pow_succ];omega
theorem upHex_pad: ∀u:Nat,abp u=aa8 (abp u).length u:=by
 intro u
 induction u using Nat.strongRecOn with
 | ind u ih=>
  rw[upHex_rec]
  split
  ·rename_i h
   rw[List.length_append]
   show _=aa8 ((abp (u/16)).length+1) u
   rw[aa8,←ih (u/16) (by omega)]
  ·rename_i h
   show _=aa8 1 u
   rw[aa8,aa8,Nat.mod_eq_of_lt (by omega)]
   rfl
theorem upHex_pos (u:Nat):0<(abp u).length:=by
 rw[upHex_rec];split<;>simp
theorem padHex_zero: ∀(k j u:Nat),u<16^k→aa8 (j+k) u=List.replicate j 48++aa8 k u:=by
 intro k
 induction k with
 | zero=>
  intro j u h
  have h0:u=0:=by simpa using h
  subst h0
  induction j with
  | zero=>rfl
  | succ j ih=>
   show aa8 (j+0) 0++[acy 0]=_
   rw[ih,List.replicate_succ']
   show List.replicate j 48++[]++[acy 0]=List.replicate j 48++[48]++[]
   simp
   decide
 | succ k ih=>
  intro j u h
  rw[Nat.pow_succ] at h
  show aa8 (j+k) (u/16)++[_]=_
  rw[ih j (u/16) (by omega),aa8,List.append_assoc]
theorem afs: ∀(k u:Nat),(aa8 (k+1) u).head? =some (acy (u/16^k % 16)):=by
 intro k
 induction k with
 | zero=>intro u;simp[aa8]
 | succ k ih=>
  intro u
  rw[aa8,List.head?_append,ih,Nat.div_div_eq_div_mul,Nat.pow_succ,Nat.mul_comm 16]
  rfl
theorem aay (u:Nat):aaj u=aa8 ((4-(abp u).length)+(abp u).length) u:=by
 unfold aaj
 rw[padHex_zero _ _ _ (ads u _ (Nat.le_refl _)),←upHex_pad]
theorem adn {u:Nat}{b:UInt8}(h:b∈aaj u):b≠10∧b≠32∧b≠59∧b≠35:=by
 rw[aay] at h
 obtain⟨d,hd,rfl⟩:=padHex_mem _ _ b h
 exact upDig_not d hd
theorem joinS_flat: ∀(r:List Nat) (a:Nat),joinS (a::r)=aaj a++r.flatMap fun x=>32::aaj x:=by
 intro r
 induction r with
 | nil=>intro a;simp[joinS]
 | cons b t ih=>intro a;rw[joinS,ih b]<;>simp
theorem joinS_mem: ∀(us:List Nat),∀b∈joinS us,b≠10∧b≠59:=by
 intro us
 induction us with
 | nil=>intro b hb;simp[joinS] at hb
 | cons a r ih=>
  intro b hb
  cases r with
  | nil=>rw[joinS] at hb;exact⟨(adn hb).1,(adn hb).2.2.1⟩
  | cons c t=>
   rw[joinS] at hb
   ·rcases List.mem_append.1 hb with hb | hb
    ·exact⟨(adn hb).1,(adn hb).2.2.1⟩
    ·rcases List.mem_cons.1 hb with rfl | hb
     ·decide
     ·exact ih b hb
   ·simp
theorem cut_join (c:UInt8): ∀(s:List UInt8),s=(match aa7 c s with
  | []=>[]
  | a::r=>a++r.flatMap fun x=>c::x):=by
 intro s
 induction s with
 | nil=>simp[aa7]
 | cons b r ih=>
  cases hc:aa7 c r with
  | nil=>exact absurd hc (cutL_ne c r)
  | cons a t=>
   rw[hc] at ih
   simp only at ih
   by_cases hb:b=c
   ·have e:aa7 c (b::r)=[]::a::t:=by rw[aa7,if_pos hb,hc]
    rw[e]
    simp only[List.nil_append,List.flatMap_cons,List.cons_append]
    rw[←ih,hb]
   ·have e:aa7 c (b::r)=(b::a)::t:=by rw[aa7,if_neg hb,hc]
    rw[e]
    simp only[List.cons_append]
    rw[←ih]
end Go.Vf
