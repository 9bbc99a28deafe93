/- Contracts and lemmas (nothing is claimed here). -/
import Derived.Test.YtfhpgmlfgjfknaaGreatDoorJ6
namespace Go.Proofs.YtfhpgmlfgjfknaaGreatDoor
open Go.RowKit Go.Vf Go.Maps
theorem azy (p q r:Addr)(w:World):
  CallsD Tryz.prog 32 #[.pointer (some p),.pointer (some q),.pointer (some r)] .returning w fun e u' w'=>e=.returned (.tuple #[])∧u'=.returning∧w'=w:=by
 refine callsD_of_wpS Tryz.func32 rfl fun c₀ cs hu=> ?_
 apply wpS_seq
 apply wpS_region
 simp[wpOpsS,go_sem,recoverD,hu,Tryz.ntmps32,Exit.thenS]
 apply wpS_seq
 apply wpS_region
 simp[wpOpsS,go_sem,Exit.thenS]
 refine wpS_cond (t:=false) (by simp[Act.eval,Array.replicate]) ?_
 simp only[Bool.false_eq_true,if_false]
 refine wpS_of_wp (wp_skip ?_)
 cases c₀
 simp_all [bodyPostS,results,Tryz.results32]
structure Three (w:World)(h:Nat)(d:Option Addr)(e n:Int):Prop where
 b0:Blk w h 43 #[.pointer d]
 b1:Blk w (h+1) 29 #[.int .i64 e]
 b2:Blk w (h+1+1) 3 #[.int .i64 n]
theorem Three.lt {w:World}{h:Nat}{d:Option Addr}{e n:Int}(h3:Three w h d e n):h+1+1<w.heap.size:=h3.b2.lt
theorem Three.below {w w':World}{B h:Nat}{d:Option Addr}{e n:Int}(h3:Three w h d e n)(hb:Below B w w')(hB:h+1+1<B):Three w' h d e n:=
 ⟨h3.b0.below hb (by omega),h3.b1.below hb (by omega),h3.b2.below hb hB⟩
theorem Three.set {w:World}{h:Nat}{d:Option Addr}{e n:Int}(h3:Three w h d e n)(d':Option Addr)(e' n':Int):
  Three (((w.setCell ⟨h,0,none⟩ (.pointer d')).setCell ⟨h+1,0,none⟩ (.int .i64 e')).setCell ⟨h+1+1,0,none⟩ (.int .i64 n')) h d' e' n'∧
  Below h w (((w.setCell ⟨h,0,none⟩ (.pointer d')).setCell ⟨h+1,0,none⟩ (.int .i64 e')).setCell ⟨h+1+1,0,none⟩ (.int .i64 n')):=by
 refine⟨⟨?_,?_,?_⟩,?_⟩
 ·have:=h3.b0.set 0 (.pointer d')
  refine((Below.heap_setCell _ ⟨h+1+1,0,none⟩ _ h (by show h≠h+1+1;omega)).trans ((Below.heap_setCell _ ⟨h+1,0,none⟩ _ h (by show h≠h+1;omega)).trans ?_))
  simpa[Blk] using this
 ·have h1:Blk (w.setCell ⟨h,0,none⟩ (.pointer d')) (h+1) 29 #[.int .i64 e]:=(Below.heap_setCell _ ⟨h,0,none⟩ _ (h+1) (by show h+1≠h;omega)).trans h3.b1
  have:=h1.set 0 (.int .i64 e')
  refine((Below.heap_setCell _ ⟨h+1+1,0,none⟩ _ (h+1) (by show h+1≠h+1+1;omega)).trans ?_)
  simpa[Blk] using this
 ·have h1:Blk ((w.setCell ⟨h,0,none⟩ (.pointer d')).setCell ⟨h+1,0,none⟩ (.int .i64 e')) (h+1+1) 3 #[.int .i64 n]:=(Below.heap_setCell _ ⟨h+1,0,none⟩ _ (h+1+1) (by show h+1+1≠h+1;omega)).trans ((Below.heap_setCell _ ⟨h,0,none⟩ _ (h+1+1) (by show h+1+1≠h;omega)).trans h3.b2)
  have:=h1.set 0 (.int .i64 n')
  simpa[Blk] using this
 ·exact(((Below.refl h w).setCell (p:=⟨h,0,none⟩) (Nat.le_refl _) _).setCell (p:=⟨h+1,0,none⟩) (Nat.le_succ _) _).setCell (p:=⟨h+1+1,0,none⟩) (by show h≤h+1+1;omega) _
structure ThreeC (w:World)(h:Nat)(d:Option Addr)(e n:Int):Prop where
 c0:w.cell? ⟨h,0,none⟩=some (.pointer d)
 c1:w.cell? ⟨h+1,0,none⟩=some (.int .i64 e)
 c2:w.cell? ⟨h+1+1,0,none⟩=some (.int .i64 n)
 f0:w.frozen? ⟨h,0,none⟩=false
 f1:w.frozen? ⟨h+1,0,none⟩=false
 f2:w.frozen? ⟨h+1+1,0,none⟩=false
theorem Three.cells {w:World}{h:Nat}{d:Option Addr}{e n:Int}(h3:Three w h d e n):ThreeC w h d e n:=
 ⟨h3.b0.cell 0,h3.b1.cell 0,h3.b2.cell 0,h3.b0.frozen 0,h3.b1.frozen 0,h3.b2.frozen 0⟩
set_option maxHeartbeats 1000000 in
theorem aju (h:Nat)(why line:Int)(d:Option Addr)(e0 n0:Int)(w:World)(h3:Three w h d e0 n0):
  CallsD Tryz.prog 32 #[.pointer (some ⟨h,0,none⟩),.pointer (some ⟨h+1,0,none⟩),.pointer (some ⟨h+1+1,0,none⟩)] (.panicking [{v:=a3l why line,recovered:=false}]) w fun e u' w'=>
   e=.returned (.tuple #[])∧u'=.panicking [{v:=a3l why line,recovered:=true}]∧Three w' h none why line∧Below h w w':=by
 have hta: ∀w:World,(Instr.typeAssert (a3l why line) 20 88 false).run Tryz.prog w=.ok (.agg #[.int .i64 why,.int .i64 line]) w:=fun w=>by kernel_rfl
 have hb0:=(Below.refl w.heap.size w).alloc (Nat.le_refl _) (.cells #[.int .i64 why,.int .i64 line] 88)
 have b0:(w.alloc (.cells #[.int .i64 why,.int .i64 line] 88)).cell? ⟨w.heap.size,0,none⟩=some (.int .i64 why):=by simp
 have b1:(w.alloc (.cells #[.int .i64 why,.int .i64 line] 88)).cell? ⟨w.heap.size,1,none⟩=some (.int .i64 line):=by simp
 refine callsD_of_wpS Tryz.func32 rfl fun c₀ cs hu=> ?_
 apply wpS_seq
 apply wpS_region
 simp[wpOpsS,go_sem,recoverD,hu,Tryz.ntmps32,Exit.thenS,Array.replicate]
 apply wpS_seq
 apply wpS_region
 simp[wpOpsS,go_sem,Exit.thenS]
 refine wpS_cond (t:=true) (by simp[Act.eval]) ?_
 simp only[if_true]
 refine wpS_of_wp ?_
 go_wp2
 have h3':=h3.below hb0 h3.lt
 generalize w.alloc (.cells #[.int .i64 why,.int .i64 line] 88)=W at hb0 b0 b1 h3'⊢
 have h4:=h3'.set none why line
 have hne: ¬w.heap.size=h:=by have:=h3.lt;omega
 have hne1: ¬w.heap.size=h+1:=by have:=h3.lt;omega
 have hne2: ¬w.heap.size=h+1+1:=by have:=h3.lt;omega
 have hne3: ¬h=w.heap.size:=by omega
 have hne4: ¬h+1=w.heap.size:=by omega
 have hne5: ¬h+1+1=w.heap.size:=by omega
 have hbW:Below h w W:=hb0.mono (by have:=h3.lt;omega)
 obtain⟨c0,c1,c2,f0,f1,f2⟩:=h3'.cells
 clear h3 h3'
 go_region
 exact⟨rfl,_,rfl,_,by simp[results,Tryz.results32],rfl,rfl,⟨h4.1.b0,h4.1.b1,h4.1.b2⟩,(hbW.trans h4.2).drew⟩
theorem afn {tmps:Array Value}{w:World}{h:Nat}{d:Option Addr}{e n:Int}(h3:Three w h d e n)(t2:tmps[2]?.getD undef=.pointer (some ⟨h,0,none⟩))(t3:tmps[3]?.getD undef=.pointer (some ⟨h+1,0,none⟩))(t4:tmps[4]?.getD undef=.pointer (some ⟨h+1+1,0,none⟩)):
  (results Tryz.f17 tmps).run Tryz.prog w=.ok (.tuple #[.pointer d,.int .i64 e,.int .i64 n]) w:=by
 obtain⟨c0,c1,c2,f0,f1,f2⟩:=h3.cells
 simp[results,Tryz.results17,go_sem,t2,t3,t4,c0,c1,c2]
theorem Three.setD {w:World}{h:Nat}{d:Option Addr}{e n:Int}(h3:Three w h d e n)(d':Option Addr):Three (w.setCell ⟨h,0,none⟩ (.pointer d')) h d' e n:=
 ⟨by simpa[Blk] using h3.b0.set 0 (.pointer d'),(Below.heap_setCell _ ⟨h,0,none⟩ _ (h+1) (by show h+1≠h;omega)).trans h3.b1,(Below.heap_setCell _ ⟨h,0,none⟩ _ (h+1+1) (by show h+1+1≠h;omega)).trans h3.b2⟩
theorem RD.setLow {w:World}{base b bm:Nat}{line:Int}{vp:Value}{pv:Int→Value}{L:List Mk}(h:RD w base b bm line vp pv L){p:Addr}(hp:p.block<base)(u:Value):RD (w.setCell p u) base b bm line vp pv L:=
 ⟨(Below.heap_setCell w p u b (by have:=h.bge;omega)).trans h.blk,h.bge,h.mge,h.mp.setCell (by have:=h.mge;omega) u,fun m hm=>aam (h.parts m hm) hp u,aam h.places hp u⟩
theorem ar1 {w:World}{b1 b2:Nat}{t1 t2:TypeId}{c1 c2:Array Value}(h1:Blk w b1 t1 c1)(h2:Blk w b2 t2 c2)(ht:t1≠t2):b1≠b2:=by
 rintro rfl
 have e:=(show w.heap[b1]? =_ from h1).symm.trans h2
 simp only[Option.some.injEq,Obj.cells.injEq] at e
 exact ht e.2.1
def DataAt (w:World)(bd:Nat)(L:List Mk)(E:Int→List Int):Prop:= ∃bm n pv ev,Blk w bd 96 #[.map (some bm)]∧DD w bm n pv ev L E∧n≤3000000∧(L.map Mk.point).Nodup∧L.length≤4096∧ ∀m∈L,a2b m
theorem DataAt.below {w w':World}{bd:Nat}{L:List Mk}{E:Int→List Int}(h:DataAt w bd L E)(hb:Below w.heap.size w w'):DataAt w' bd L E:=by
 obtain⟨bm,n,pv,ev,h1,h2,h3⟩:=h
 exact⟨bm,n,pv,ev,h1.below hb h1.lt,h2.below hb,h3⟩
def av7 (r:Except (Int×Int) (List Mk×(Int→List Int)))(w:World)(e:Ending)(w':World):Prop:=
 Below w.heap.size w w'∧match r with
  | .error (why,line)=>e=.returned (.tuple #[.pointer none,.int .i64 why,.int .i64 line])
  | .ok (L,E)=> ∃bd,e=.returned (.tuple #[.pointer (some ⟨bd,0,none⟩),.int .i64 0,.int .i64 0])∧DataAt w' bd L E
theorem aym (w:World):Three (((w.alloc (.cells #[.pointer none] 43)).alloc (.cells #[.int .i64 0] 29)).alloc (.cells #[.int .i64 0] 3)) w.heap.size none 0 0:=by
 refine⟨?_,?_,?_⟩
 ·exact(Below.heap_alloc _ _ _ (by simp;omega)).trans ((Below.heap_alloc _ _ _ (by simp)).trans (Blk.new w 43 #[.pointer none]))
 ·have:=Blk.new (w.alloc (.cells #[.pointer none] 43)) 29 #[.int .i64 0]
  rw[show (w.alloc (.cells #[.pointer none] 43)).heap.size=w.heap.size+1 by simp] at this
  exact(Below.heap_alloc _ _ _ (by simp)).trans this
 ·have:=Blk.new ((w.alloc (.cells #[.pointer none] 43)).alloc (.cells #[.int .i64 0] 29)) 3 #[.int .i64 0]
  rw[show ((w.alloc (.cells #[.pointer none] 43)).alloc (.cells #[.int .i64 0] 29)).heap.size=w.heap.size+1+1 by simp] at this
  exact this
theorem a7n (w:World):RD ((w.alloc (.map #[] 0)).alloc (.cells #[.int .i64 0,.map (some w.heap.size),.slice none 0 0] 92)) w.heap.size (w.heap.size+1) w.heap.size 0 (.slice none 0 0) (fun _=>.slice none 0 0) []:=by
 refine⟨?_,by omega,by omega,(MapAt.made w).alloc _,by simp,World.ownsRow_nil _ _ _ _⟩
 have:=Blk.new (w.alloc (.map #[] 0)) 92 #[.int .i64 0,.map (some w.heap.size),.slice none 0 0]
 rw[show (w.alloc (.map #[] 0)).heap.size=w.heap.size+1 by simp] at this
 exact this
theorem ave {x:Int}(h:aed x=true):InI x:=by
 simp[aed] at h
 unfold InI;omega
theorem RD.md {w:World}{base b bm:Nat}{line:Int}{vp:Value}{pv:Int→Value}{L:List Mk}(h:RD w base b bm line vp pv L)(hok: ∀m∈L,a2b m)(hs:anb L≤65537):MD w w.heap.size bm L.length pv L:=
 ⟨h.mp,h.mp.lt,fun m hm=>⟨(h.parts m hm).ints,by have:=aou hm;omega⟩,fun m hm=>⟨ave (hok m hm).1,fun q hq=>ave ((hok m hm).2.1 q hq)⟩⟩
theorem RD.dd {w:World}{base b bm:Nat}{line:Int}{vp:Value}{pv:Int→Value}{L:List Mk}(h:RD w base b bm line vp pv L)(hok: ∀m∈L,a2b m)(hs:anb L≤65537):DD w bm L.length pv (fun _=>.slice none 0 0) L (fun _=>[]):=
 ⟨h.mp,fun m hm=>⟨(h.parts m hm).ints,by have:=aou hm;omega⟩,fun m _=>⟨.inl ⟨_,_,rfl,rfl⟩,by simp⟩,fun m hm=>⟨ave (hok m hm).1,fun q hq=>ave ((hok m hm).2.1 q hq)⟩,fun _ _=>rfl⟩
set_option maxHeartbeats 4000000 in
set_option maxRecDepth 20000 in
theorem a3n (s:ByteArray)(m:Int)(w:World)(hm:w.cell? ⟨2,0,none⟩=some (.int .i64 m))(hbig:s.size≤281474976710656):
  Calls Tryz.prog 17 #[.string s] w fun e w'=>av7 (aaw s.data.toList) w e w':=by
 have hmf: ∀(fn:Fn) (first cap:Array Value) (w:World),(Instr.makeFunc fn first cap).run Tryz.prog w=.ok (.func fn first cap) w:=fun _ _ _ _=>rfl
 have hmm:= @run_makeMap Tryz.prog
 have hsl:s.data.toList.length=s.size:=(Lib.size_eq s).symm
 have hlt0:2<w.heap.size:=World.block_lt_of_cell? w _ hm
 have h3:=aym w
 have hbel:=(((Below.refl w.heap.size w).alloc (Nat.le_refl _) (.cells #[.pointer none] 43)).alloc (by simp) (.cells #[.int .i64 0] 29)).alloc (by simp;omega) (.cells #[.int .i64 0] 3)
 by_cases hlong:65536<s.size
 ·have hR:aaw s.data.toList=.error (2,0):=by unfold aaw;rw[if_pos (by omega)]
  rw[hR]
  have h4:=h3.set none 2 0
  obtain⟨c0,c1,c2,f0,f1,f2⟩:=h3.cells
  go_enter_defers Tryz.func17,Tryz.ntmps17
  go_wp2
  simp[bodyPostD,Leaves,results,Tryz.results17,go_sem]
  exact⟨(((Below.refl w.heap.size w).alloc (Nat.le_refl _) _).alloc (by simp) _).alloc (by simp;omega) _,rfl⟩
 ·have hs:s.size≤65536:=by omega
  have hR:aaw s.data.toList=match aar (aa3 10 s.data.toList) 0 [] with
   | .error e=>.error e
   | .ok L=>match ajl (aab L) 200000 (L.map Mk.point) TS.empty with
    | none=>.error (0,0)
    | some S=>match L.find? (fun m=>decide (S.loops m.point>0)) with
     | some m=>.error (42,m.line)
     | none=>match L.find? (fun m=>decide (18<(ad9 (ade L) (aab L) S.ord (fun _=>[]) m.point).length)) with
      | some m=>.error (43,m.line)
      | none=>.ok (L,ad9 (ade L) (aab L) S.ord (fun _=>[])):=by unfold aaw;rw[if_neg (by omega)];try rfl
  have htot:=fun L=>abc (t:=s.data.toList) (L:=L) (by omega)
  generalize hQ:aaw s.data.toList=Q at hR
  generalize hLR:aar (aa3 10 s.data.toList) 0 []=LR at hR htot
  have HLR:Hid (aar (aa3 10 s.data.toList) 0 []=LR):=hLR
  have HT:Hid (∀L,LR=.ok L→(∀m∈L,a2b m)∧(L.map Mk.point).Nodup∧L.length≤4096∧anb L≤65537∧L.length+anb L≤200000):=htot
  clear hLR hQ htot
  go_enter_defers Tryz.func17,Tryz.ntmps17
  go_upto_region 4 with fail
  generalize ((w.alloc (.cells #[.pointer none] 43)).alloc (.cells #[.int .i64 0] 29)).alloc (.cells #[.int .i64 0] 3)=W3 at h3 hbel⊢
  have hlt3:=h3.lt
  have hrd:=a7n W3
  have hb5:Below W3.heap.size W3 ((W3.alloc (.map #[] 0)).alloc (.cells #[.int .i64 0,.map (some W3.heap.size),.slice none 0 0] 92)):=((Below.refl _ W3).alloc (Nat.le_refl _) _).alloc (by simp) _
  have hm5:=(hb5.cell (p:=⟨2,0,none⟩) (by show 2<W3.heap.size;omega)).trans ((hbel.cell (p:=⟨2,0,none⟩) hlt0).trans hm)
  have h35:=h3.below hb5 hlt3
  go_wp2_with fail
  generalize (W3.alloc (.map #[] 0)).alloc (.cells #[.int .i64 0,.map (some W3.heap.size),.slice none 0 0] 92)=W5 at hrd hb5 hm5 h35⊢
  generalize W3.heap.size+1=br at hrd⊢
  refine(ao4 W3.heap.size br W3.heap.size s m _ _ W5 hs (by omega) hm5 hb5.size hrd).mono ?_
  rw[HLR.out]
  rintro e w6 ⟨hb6,hpost⟩
  have h36:=h35.below hb6 hlt3
  have hbw6:Below w.heap.size w w6:=hbel.trans ((hb5.trans hb6).mono hbel.size)
  have hs36:W3.heap.size≤w6.heap.size:=(hb5.trans hb6).size
  clear hrd hb5 hm5 h35 HLR
  cases LR with
  | error q=>
   obtain⟨why,line⟩:=q
   obtain rfl:=hpost
   have HQ:Hid (Q=.error (why,line)):=hR
   clear hR
   go_wp2
   refine leaves_cons (f:=32) (args:= #[.pointer (some ⟨w.heap.size,0,none⟩),.pointer (some ⟨w.heap.size+1,0,none⟩),.pointer (some ⟨w.heap.size+1+1,0,none⟩)]) (by simp) (by simp[go_sem]) ?_
   refine(aju w.heap.size why line _ _ _ _ h36).mono ?_
   rintro e u' w'' ⟨rfl,rfl,h4,hb4⟩
   exact⟨_,afn h4 rfl rfl rfl,hbw6.trans hb4,by rw[HQ.out]⟩
  | ok L=>
   obtain⟨rfl,n,vp,pv,hrd6,hL4⟩:=hpost
   obtain⟨hok,hnd,hlen,hsum,htot⟩:=HT.out L rfl
   obtain⟨S,hw,hinv,hmet⟩:=aer htot
   simp only[hw] at hR
   have c1:=hrd6.c1
   have c2:=hrd6.c2
   obtain⟨av,cv,rfl⟩:=aax hrd6.places
   have hmd6:=hrd6.md hok hsum
   have HR:Hid (Q=match L.find? (fun m=>decide (S.loops m.point>0)) with
     | some m=>.error (42,m.line)
     | none=>match L.find? (fun m=>decide (18<(ad9 (ade L) (aab L) S.ord (fun _=>[]) m.point).length)) with
      | some m=>.error (43,m.line)
      | none=>.ok (L,ad9 (ade L) (aab L) S.ord (fun _=>[]))):=hR
   have HW:Hid (ajl (aab L) 200000 (L.map Mk.point) TS.empty=some S):=hw
   clear hR hw HT
   go_wp2_with fail
   refine(amt W3.heap.size L.length 200000 _ pv L S w6 hlen (PL.of hrd6.places) hmd6 HW.out).mono ?_
   rintro e w7 ⟨hb7,hpost7⟩
   have h37:=h36.below hb7 (by omega)
   have hbw7:Below w.heap.size w w7:=hbw6.trans (hb7.mono hbw6.size)
   have hrd7:=hrd6.below hb7
   cases hF:L.find? (fun m=>decide (S.loops m.point>0)) with
   | some mk=>
    rw[hF] at hpost7
    obtain rfl:=hpost7
    have HQ:Hid (Q=.error (42,mk.line)):=by show _=_;rw[HR.out,hF]
    clear HR HW
    go_wp2
    refine leaves_cons (f:=32) (args:= #[.pointer (some ⟨w.heap.size,0,none⟩),.pointer (some ⟨w.heap.size+1,0,none⟩),.pointer (some ⟨w.heap.size+1+1,0,none⟩)]) (by simp) (by simp[go_sem]) ?_
    refine(aju w.heap.size 42 mk.line _ _ _ _ h37).mono ?_
    rintro e u' w'' ⟨rfl,rfl,h4,hb4⟩
    exact⟨_,afn h4 rfl rfl rfl,hbw7.trans hb4,by rw[HQ.out]⟩
   | none=>
    rw[hF] at hpost7
    obtain⟨a7,k7,c7,rfl,hord7,hol7,hoI7⟩:=hpost7
    have HR2:Hid (Q=match L.find? (fun m=>decide (18<(ad9 (ade L) (aab L) S.ord (fun _=>[]) m.point).length)) with
      | some m=>.error (43,m.line)
      | none=>.ok (L,ad9 (ade L) (aab L) S.ord (fun _=>[]))):=by show _=_;rw[HR.out,hF]
    have d1:=hrd7.c1
    have hb8a:=(Below.refl w7.heap.size w7).alloc (Nat.le_refl _) (.cells #[.map (some W3.heap.size)] 96)
    have h38a:=h37.below hb8a h37.lt
    have hbd8a:=Blk.new w7 96 #[.map (some W3.heap.size)]
    have hrd8a:=hrd7.below hb8a
    have hord8a:=aad hord7 hb8a
    obtain⟨q0,_,_,f0,_,_⟩:=h38a.cells
    have h38:=h38a.setD (some ⟨w7.heap.size,0,none⟩)
    have hlth:w.heap.size<W3.heap.size:=by omega
    have hrd8:=hrd8a.setLow (p:=⟨w.heap.size,0,none⟩) hlth (.pointer (some ⟨w7.heap.size,0,none⟩))
    have hord8:=aam hord8a (p:=⟨w.heap.size,0,none⟩) (by show w.heap.size<w6.heap.size;omega) (.pointer (some ⟨w7.heap.size,0,none⟩))
    have hbd8:Blk ((w7.alloc (.cells #[.map (some W3.heap.size)] 96)).setCell ⟨w.heap.size,0,none⟩ (.pointer (some ⟨w7.heap.size,0,none⟩))) w7.heap.size 96 #[.map (some W3.heap.size)]:=(Below.heap_setCell _ ⟨w.heap.size,0,none⟩ _ w7.heap.size (by show w7.heap.size≠w.heap.size;have:=hb7.size;omega)).trans hbd8a
    have hbw8:Below w.heap.size w ((w7.alloc (.cells #[.map (some W3.heap.size)] 96)).setCell ⟨w.heap.size,0,none⟩ (.pointer (some ⟨w7.heap.size,0,none⟩))):=(hbw7.trans (hb8a.mono hbw7.size)).setCell (p:=⟨w.heap.size,0,none⟩) (Nat.le_refl _) _
    have q8:((w7.alloc (.cells #[.map (some W3.heap.size)] 96)).setCell ⟨w.heap.size,0,none⟩ (.pointer (some ⟨w7.heap.size,0,none⟩))).cell? ⟨w.heap.size,0,none⟩=some (.pointer (some ⟨w7.heap.size,0,none⟩)):=h38.b0.cell 0
    have hsz38:W3.heap.size≤((w7.alloc (.cells #[.map (some W3.heap.size)] 96)).setCell ⟨w.heap.size,0,none⟩ (.pointer (some ⟨w7.heap.size,0,none⟩))).heap.size:=by have:=hb7.size;simp;omega
    have hsz8:w7.heap.size≤((w7.alloc (.cells #[.map (some W3.heap.size)] 96)).setCell ⟨w.heap.size,0,none⟩ (.pointer (some ⟨w7.heap.size,0,none⟩))).heap.size:=by simp
    clear HR HW c1 c2 hF hmd6 h38a hbd8a hrd8a hord8a hb8a
    go_upto_region 8 with fail
    generalize (w7.alloc (.cells #[.map (some W3.heap.size)] 96)).setCell ⟨w.heap.size,0,none⟩ (.pointer (some ⟨w7.heap.size,0,none⟩))=W8 at h38 hrd8 hord8 hbd8 hbw8 q8 hsz8 hsz38⊢
    generalize w7.heap.size=bd at h38 hbd8 q8 hsz8⊢
    have hk7:k7=S.ord.length:=by
     obtain⟨a',c',e'⟩:=hord7.val
     simp only[Value.slice.injEq] at e'
     exact e'.2.1
    have HK7:Hid (k7=S.ord.length):=hk7
    have hk7l:k7≤1000000:=by omega
    clear hk7 d1 q0 f0 hord7 hrd7 h37 hrd6 h36 h3
    go_wp2_with fail
    refine(ari bd W3.heap.size L.length pv (fun _=>.slice none 0 0) L (fun _=>[]) a7 k7 c7 S.ord W8 hoI7 hbd8 (hrd8.dd hok hsum) (IOwn.ints hord8) HK7.out hk7l (by omega) (fun _=>Above.nil _)).mono ?_
    rintro e w9 ⟨rfl,⟨n9,ev9,hdd9,hn9,hab9⟩,hg9⟩
    have hmp8:=hrd8.mp
    have h39:Three w9 w.heap.size (some ⟨bd,0,none⟩) 0 0:=⟨(hg9.block _ h38.b0.lt (fun e=>aaq h38.b0 hmp8 (by simpa using e))).trans h38.b0,(hg9.block _ h38.b1.lt (fun e=>aaq h38.b1 hmp8 (by simpa using e))).trans h38.b1,(hg9.block _ h38.b2.lt (fun e=>aaq h38.b2 hmp8 (by simpa using e))).trans h38.b2⟩
    have hbd9:Blk w9 bd 96 #[.map (some W3.heap.size)]:=(hg9.block bd hbd8.lt (fun e=>aaq hbd8 hmp8 (by simpa using e))).trans hbd8
    have hbr9:Blk w9 br 92 #[.int .i64 n,.map (some W3.heap.size),.slice av L.length cv]:=(hg9.block br (show Blk W8 br 92 _ from hrd8.blk).lt (fun e=>aaq hrd8.blk hmp8 (by simpa using e))).trans hrd8.blk
    have hpl9:PL w9 (.slice av L.length cv) L:=PL.of (ad6 hrd8.places hmp8 hg9)
    have hbw9:Below w.heap.size w w9:=hbw8.grown hg9 hbw8.size (fun j hj=>by cases hj;omega)
    have q9:w9.cell? ⟨w.heap.size,0,none⟩=some (.pointer (some ⟨bd,0,none⟩)):=h39.b0.cell 0
    have r9:w9.cell? ⟨br,2,none⟩=some (.slice av L.length cv):=hbr9.cell 2
    have hsz9:W3.heap.size≤w9.heap.size:=by have:=hg9.size;omega
    have hpab: ∀m∈L,Above W3.heap.size (pv m.point):=fun m hm=>(hrd8.parts m hm).above
    clear q8 hord8
    generalize hE9:ad9 (ade L) (aab L) S.ord (fun _=>[])=E9 at hdd9
    rw[hE9] at HR2
    clear hE9
    go_wp2_with fail
    refine(ao9 bd W3.heap.size n9 pv ev9 L E9 _ w9 hlen hbd9 hdd9 hpl9).mono ?_
    rintro e w10 ⟨hb10,hpost10⟩
    have h310:=h39.below hb10 h39.lt
    have hbw10:=hbw9.trans (hb10.mono hbw9.size)
    have hdd10:=hdd9.below hb10
    have hbd10:=hbd9.below hb10 hbd9.lt
    cases hF2:L.find? (fun m=>decide (18<(E9 m.point).length)) with
    | some mk=>
     rw[hF2] at hpost10
     obtain rfl:=hpost10
     have HQ:Hid (Q=.error (43,mk.line)):=by show _=_;rw[HR2.out,hF2]
     clear HR2 q9 r9
     go_wp2
     refine leaves_cons (f:=32) (args:= #[.pointer (some ⟨w.heap.size,0,none⟩),.pointer (some ⟨w.heap.size+1,0,none⟩),.pointer (some ⟨w.heap.size+1+1,0,none⟩)]) (by simp) (by simp[go_sem]) ?_
     refine(aju w.heap.size 43 mk.line _ _ _ _ h310).mono ?_
     rintro e u' w'' ⟨rfl,rfl,h4,hb4⟩
     exact⟨_,afn h4 rfl rfl rfl,hbw10.trans hb4,by rw[HQ.out]⟩
    | none=>
     rw[hF2] at hpost10
     obtain rfl:=hpost10
     have HQ:Hid (Q=.ok (L,E9)):=by show _=_;rw[HR2.out,hF2]
     have h4:=h310.set (some ⟨bd,0,none⟩) 0 0
     obtain⟨z0,z1,z2,zf0,zf1,zf2⟩:=h310.cells
     have hab': ∀x,Above W3.heap.size (ev9 x):=fun x=>(hab9 x).mono hsz38
     have HD:Hid (DataAt ((((w10.setCell ⟨w.heap.size,0,none⟩ (.pointer (some ⟨bd,0,none⟩))).setCell ⟨w.heap.size+1,0,none⟩ (.int .i64 0)).setCell ⟨w.heap.size+1+1,0,none⟩ (.int .i64 0))) bd L E9):=by
      refine⟨W3.heap.size,n9,pv,ev9,?_,?_,by omega,hnd,hlen,hok⟩
      ·refine(Below.heap_setCell _ ⟨w.heap.size+1+1,0,none⟩ _ bd ?_).trans ((Below.heap_setCell _ ⟨w.heap.size+1,0,none⟩ _ bd ?_).trans ((Below.heap_setCell _ ⟨w.heap.size,0,none⟩ _ bd ?_).trans hbd10))
       ·exact ar1 hbd10 h310.b2 (by decide)
       ·exact ar1 hbd10 h310.b1 (by decide)
       ·exact ar1 hbd10 h310.b0 (by decide)
      ·exact((hdd10.setLow hpab hab' (Nat.le_refl _) (p:=⟨w.heap.size,0,none⟩) (by show w.heap.size<_;omega) _).setLow hpab hab' (Nat.le_refl _) (p:=⟨w.heap.size+1,0,none⟩) (by show w.heap.size+1<_;omega) _).setLow hpab hab' (Nat.le_refl _) (p:=⟨w.heap.size+1+1,0,none⟩) (by show w.heap.size+1+1<_;omega) _
     clear HR2 q9 r9 hdd10 hdd9 hbd10 h310 h39
     go_wp2
     refine leaves_cons (f:=32) (args:= #[.pointer (some ⟨w.heap.size,0,none⟩),.pointer (some ⟨w.heap.size+1,0,none⟩),.pointer (some ⟨w.heap.size+1+1,0,none⟩)]) (by simp) (by simp[go_sem]) ?_
     refine(azy _ _ _ _).mono ?_
     rintro e u' w'' ⟨rfl,rfl,rfl⟩
     exact⟨_,afn h4.1 rfl rfl rfl,hbw10.trans h4.2,by rw[HQ.out];exact⟨bd,rfl,HD.out⟩⟩
end Go.Proofs.YtfhpgmlfgjfknaaGreatDoor
namespace Go.Vf
def aa5 (p:Int):List Int:=
 if (p-44032) % 28=0 then [4352+(p-44032)/588,4449+(p-44032) % 588/28]
 else [4352+(p-44032)/588,4449+(p-44032) % 588/28]++[4519+(p-44032) % 28]
def aa4 (E:Int→List Int)(p:Int):List Int:=if ab7 p then (aa5 p).flatMap (aak E) else aak E p
end Go.Vf
namespace Go.Proofs.YtfhpgmlfgjfknaaGreatDoor
open Go.RowKit Go.Vf Go.Maps
set_option maxRecDepth 10000 in
theorem ajd (bd:Nat)(L:List Mk)(E:Int→List Int)(p:Int)(w:World)(hp:InI p)(hd:DataAt w bd L E):Calls Tryz.prog 43 #[.pointer (some ⟨bd,0,none⟩),.int .i64 p] w fun e w'=>e=.returned (.int .i64 (aaa L p))∧w=w':=by
 obtain⟨bm,n,pv,ev,hbd,hdd,_⟩:=hd
 obtain⟨a,k,cap,a2,k2,cap2,hl,_,_,hkA,_,_,_,hk2,_⟩:=hdd.look hp
 clear hkA hk2
 have hl':=hl w rfl
 have hf0:=a79 (aaa L p) (.slice a k cap) (.slice a2 k2 cap2)
 have b0:w.cell? ⟨bd,0,none⟩=some (.map (some bm)):=hbd.cell 0
 clear hl
 go_enter Tryz.func43,Tryz.ntmps43
 go_wp2
 go_ret
 exact⟨rfl,rfl⟩
theorem azk (w:World)(a b:Int):IOwn (w.alloc (.cells #[.int .i64 a,.int .i64 b] 3)) w.heap.size (.slice (some ⟨w.heap.size,0,none⟩) 2 2) [a,b]:=
 ⟨by simp,.inr ⟨w.heap.size,2,#[.int .i64 a,.int .i64 b],rfl,Nat.le_refl _,heap_alloc_new w _,by simp,by unfold maxLen;omega,by simp,by simp⟩⟩
set_option maxHeartbeats 1000000 in
set_option maxRecDepth 10000 in
theorem atx (p:Int)(w:World)(hs:ab7 p=true):Calls Tryz.prog 116 #[.int .i64 p] w fun e w'=> ∃a k cap,e=.returned (.slice a k cap)∧IOwn w' w.heap.size (.slice a k cap) (aa5 p)∧Below w.heap.size w w':=by
 have hb:44032≤p∧p≤55203:=by simpa[ab7] using hs
 have h1:0≤p-44032:=by omega
 unfold aa5
 generalize hz:p-44032=z at h1
 have hzl:z≤11171:=by omega
 by_cases ht:z % 28=0
 ·rw[if_pos ht]
  go_enter Tryz.func116,Tryz.ntmps116
  go_wp2_with fail
  go_ret
  exact⟨_,_,_,rfl,azk _ _ _,(Below.refl _ _).alloc (Nat.le_refl _) _⟩
 ·rw[if_neg ht]
  have hown:=azk w (4352+z/588) (4449+z % 588/28)
  have hb1:=(Below.refl w.heap.size w).alloc (Nat.le_refl _) (.cells #[.int .i64 (4352+z/588),.int .i64 (4449+z % 588/28)] 3)
  generalize hW:w.alloc (.cells #[.int .i64 (4352+z/588),.int .i64 (4449+z % 588/28)] 3)=W at hown hb1
  have hl2: [4352+z/588,4449+z % 588/28].length+[4519+z % 28].length≤1099511627776:=by simp
  have hbs:w.heap.size≤(W.alloc (.cells #[.int .i64 (4519+z % 28)] 3)).heap.size:=by have:=hb1.size;simp;omega
  go_enter Tryz.func116,Tryz.ntmps116
  go_upto_region 5 with fail
  clear hW
  go_wp2_with (first | (at_builtin;refine aao rfl _ _ rfl w.heap.size _ [4352+z/588,4449+z % 588/28] rfl (World.ownsRow.alloc hown _) [4519+z % 28] ⟨W.heap.size,0,none⟩ 1 rfl (aku _ W) hl2 hbs ?_;intro a4 c4 w4 hown4 hgr4 hnil4 hat4))
  go_ret
  refine⟨_,_,_,rfl,hown4,(hb1.alloc hb1.size _).grown hgr4 (by have:=hb1.size;simp;omega) (fun j hj=>(aan hown hj).1)⟩
theorem arx {n₀:Nat}(a:Option Addr)(k cap:Nat)(zs:List Int)(w:World)(h:Ints n₀ w (.slice a k cap) zs)(hl:zs.length≤131072):
  Calls Tryz.prog 80 #[.slice a k cap] w fun e w'=> ∃a' k' c',e=.returned (.slice a' k' c')∧IOwn w' w.heap.size (.slice a' k' c') zs∧Below w.heap.size w w':=by
 rcases h with ⟨a',cap',e,rfl⟩ | ⟨b,off,cap',e,_,hc⟩
 ·cases e
  cases a with
  | none=>
   refine(Tryz.slices_Clone_int_nil 0 cap w).mono ?_
   rintro e w' ⟨rfl,rfl⟩
   exact⟨_,_,_,rfl,IOwn.nil _ _,Below.refl _ _⟩
  | some ad=>
   refine(Tryz.slices_Clone_int_zero ad cap w).mono ?_
   rintro e w' ⟨v',rfl,ho,_,hb⟩
   have ho':IOwn w' w.heap.size v' []:=ho
   obtain⟨a',c',rfl⟩:=ho'.val
   exact⟨_,_,_,rfl,ho',hb⟩
 ·cases e
  refine(Tryz.slices_Clone_int b off zs.length cap zs w (Nat.le_refl _) (by omega) (fun j hj=>by rw[hc j hj];simp[List.getD])).mono ?_
  rintro e w' ⟨v',rfl,ho,_,hb⟩
  rw[List.take_length] at ho
  have ho':IOwn w' w.heap.size v' zs:=ho
  obtain⟨a',c',rfl⟩:=ho'.val
  exact⟨_,_,_,rfl,ho',hb⟩
theorem al5 (bd:Nat)(L:List Mk)(E:Int→List Int)(p:Int)(w:World)(hp:InI p)(hd:DataAt w bd L E):
  Calls Tryz.prog 114 #[.pointer (some ⟨bd,0,none⟩),.int .i64 p] w fun e w'=> ∃b off cap,e=.returned (.slice (some ⟨b,off,none⟩) (aak E p).length cap)∧b<w'.heap.size∧(∀j,j<(aak E p).length→w'.cell? ⟨b,off+j,none⟩=some (.int .i64 ((aak E p)[j]?.getD 0)))∧Below w.heap.size w w':=by
 obtain⟨bm,n,pv,ev,hbd,hdd,_⟩:=hd
 exact an8 bd bm n pv ev L E p w hp hbd hdd
theorem DataAt.elen {w:World}{bd:Nat}{L:List Mk}{E:Int→List Int}(h:DataAt w bd L E)(p:Int):(aak E p).length≤19∧0<(aak E p).length:=by
 obtain⟨bm,n,pv,ev,hbd,hdd,_⟩:=h
 exact al6 (hdd.elen p)
theorem agl {p:Int}(hs:ab7 p=true):(∀q∈aa5 p,InI q)∧(aa5 p).length≤3∧2≤(aa5 p).length:=by
 have hb:44032≤p∧p≤55203:=by simpa[ab7] using hs
 unfold aa5 InI
 split
 ·refine⟨fun q hq=> ?_,by simp,by simp⟩
  simp at hq
  omega
 ·refine⟨fun q hq=> ?_,by simp,by simp⟩
  simp at hq
  omega
set_option maxHeartbeats 4000000 in
set_option maxRecDepth 20000 in
theorem azg (bd:Nat)(L:List Mk)(E:Int→List Int)(p:Int)(w:World)(hp:InI p)(hd:DataAt w bd L E):
  Calls Tryz.prog 73 #[.pointer (some ⟨bd,0,none⟩),.int .i64 p] w fun e w'=> ∃a k cap,e=.returned (.slice a k cap)∧IOwn w' w.heap.size (.slice a k cap) (aa4 E p)∧Below w.heap.size w w':=by
 unfold aa4
 cases hs:ab7 p with
 | false=>
  go_enter Tryz.func73,Tryz.ntmps73
  go_wp2_with fail
  refine(ad1 p w).mono ?_
  rw[hs]
  rintro e w1 ⟨rfl,rfl⟩
  go_wp2_with fail
  refine(al5 bd L E p w hp hd).mono ?_
  rintro e w2 ⟨b2,o2,c2,rfl,hb2,hc2,hbel2⟩
  have hel:=hd.elen p
  go_wp2_with fail
  refine(arx (n₀:=w2.heap.size) _ _ _ (aak E p) w2 (.inr ⟨b2,o2,c2,rfl,hb2,hc2⟩) (by omega)).mono ?_
  rintro e w3 ⟨a3,k3,c3,rfl,hown3,hbel3⟩
  go_wp2
  go_ret
  exact⟨_,_,_,rfl,hown3.mono hbel2.size,hbel2.trans (hbel3.mono hbel2.size)⟩
 | true=>
  obtain⟨hLI,hL3,_⟩:=agl hs
  go_enter Tryz.func73,Tryz.ntmps73
  go_wp2_with fail
  refine(ad1 p w).mono ?_
  rw[hs]
  rintro e w1 ⟨rfl,rfl⟩
  go_wp2_with fail
  refine(atx p w hs).mono ?_
  rintro e w2 ⟨a2,k2,c2,rfl,hown2,hbel2⟩
  obtain⟨a',c',he⟩:=hown2.val
  simp only[Value.slice.injEq] at he
  obtain⟨rfl,hk2,rfl⟩:=he
  have HK2:Hid (k2=(aa5 p).length):=hk2
  have hk3:k2≤3:=by omega
  have hint2:=hown2.ints
  have hd2:=hd.below hbel2
  generalize hls:aa5 p=ls at HK2 hint2 hLI hL3 hown2
  simp only[]
  have HLS:Hid (aa5 p=ls):=hls
  clear hk2 hls
  go_wp2_with fail
  go_loopw [5,20] (fun v i wr=> ∃(k:Nat) (acc:List Int),k≤k2∧i=.int .i64 k∧IOwn wr w2.heap.size v acc∧acc.length≤19*k∧Hid (acc++(ls.drop k).flatMap (aak E)=ls.flatMap (aak E))∧Below w2.heap.size w2 wr) (fun _ i _=>k2-(intOf i).toNat)
  case atStart=>exact⟨0,[],by omega,rfl,IOwn.nil _ _,by simp,by show _=_;simp,Below.refl _ _⟩
  case round=>
   obtain⟨k,acc,hk,rfl,hown,hal,HK,hbel⟩:=hrel
   obtain⟨av,cv,rfl⟩:=hown.val
   by_cases hlt:k<k2
   ·have hltp:k<ls.length:=by rw[←HK2.out];exact hlt
    have hdr:ls.drop k=ls[k]::ls.drop (k+1):=List.drop_eq_getElem_cons hltp
    obtain⟨bp,op,hao,hnk,hblt,hcell⟩:=(hint2.below hbel (Nat.le_refl _)).cell (fun e=>by rw[e] at hltp;simp at hltp)
    have hcj:=hcell k hltp
    rw[show ls[k]?.getD 0=ls[k] by simp[List.getElem?_eq_getElem hltp]] at hcj
    have hqI:=hLI _ (List.getElem_mem hltp)
    have hKK:=HK.out
    rw[hdr,List.flatMap_cons,←List.append_assoc] at hKK
    have hdr2:=hd2.below hbel
    have hel:=hdr2.elen ls[k]
    generalize ls[k]=q at hcj hqI hKK hel
    subst hao
    clear hcell hdr HK hltp hnk
    go_wp2_with fail
    refine(al5 bd L E q wr hqI hdr2).mono ?_
    rintro e w3 ⟨b3,o3,c3,rfl,hb3,hc3,hbel3⟩
    have hown3:=aad hown hbel3
    have hsz3:w2.heap.size≤w3.heap.size:=Nat.le_trans hbel.size hbel3.size
    have HC3:Hid (∀j,j<(aak E q).length→w3.cell? ((⟨b3,o3,none⟩:Addr).add j)=some (.int .i64 ((aak E q)[j]?.getD 0))):=fun j hj=>by
     rw[show (⟨b3,o3,none⟩:Addr).add j=⟨b3,o3+j,none⟩ by simp[Addr.add]];exact hc3 j hj
    have HKK:Hid ((acc++aak E q)++(ls.drop (k+1)).flatMap (aak E)=ls.flatMap (aak E)):=hKK
    clear hc3 hKK
    have HLA:Hid ((acc++aak E q).length=acc.length+(aak E q).length):=List.length_append
    generalize aak E q=en at HKK hel HC3 HLA⊢
    have hsum:acc.length+en.length≤1099511627776:=by omega
    go_wp2_with (first | (at_builtin;refine aao rfl _ _ rfl w2.heap.size _ acc rfl hown3 en ⟨b3,o3,none⟩ _ rfl HC3.out hsum hsz3 ?_;intro a4 c4 w4 hown4 hgr4 hnil4 hat4))
    have hb4:Below w2.heap.size w3 w4:=(Below.refl _ w3).grown hgr4 hsz3 (fun j hj=>(aan hown3 hj).1)
    go_roundw
    case rel=>exact⟨k+1,acc++en,by omega,by simp,hown4,by rw[HLA.out];omega,HKK,(hbel.trans (hbel3.mono hbel.size)).trans hb4⟩
    case measure=>simp only[intOf];omega
   ·have HRR:Hid (acc=ls.flatMap (aak E)):=by
     show _=_
     have:=HK.out
     rw[List.drop_of_length_le (by rw[←HK2.out];omega)] at this
     simpa using this
    clear HK
    go_wp2_with fail
    go_ret
    rw[HLS.out,←HRR.out]
    exact⟨_,_,_,rfl,hown.mono hbel2.size,hbel2.trans (hbel.mono hbel2.size)⟩
end Go.Proofs.YtfhpgmlfgjfknaaGreatDoor
namespace Go.Vf
theorem axb: ∀(C:List (List UInt8)) (n:Int) (acc:List Mk) (why line:Int),aar C n acc=.error (why,line)→(why=40∨why=41∨why=2)∧n+1≤line∧line≤n+C.length:=by
 intro C
 induction C with
 | nil=>intro n acc why line h;cases h
 | cons s r ih=>
  intro n acc why line h
  unfold aar at h
  split at h
  ·obtain⟨a,b,c⟩:=ih _ _ _ _ h
   exact⟨a,by omega,by simp;omega⟩
  ·split at h
   ·cases h;exact⟨.inl rfl,by omega,by simp;omega⟩
   ·split at h
    ·cases h;exact⟨.inr (.inl rfl),by omega,by simp;omega⟩
    ·split at h
     ·cases h;exact⟨.inr (.inr rfl),by omega,by simp;omega⟩
     ·obtain⟨a,b,c⟩:=ih _ _ _ _ h
      exact⟨a,by omega,by simp;omega⟩
theorem apf {t:List UInt8}{why line:Int}(h:aaw t=.error (why,line)):why≠0:=by
 unfold aaw at h
 split at h
 ·cases h;decide
 ·rename_i ht
  split at h
  ·rename_i e hl
   cases h
   have:=(axb _ _ _ _ _ hl).1
   omega
  ·rename_i L hl
   split at h
   ·rename_i hw
    obtain⟨S,hS,_⟩:=aer (abc (by omega) hl).2.2.2.2
    rw[hS] at hw
    cases hw
   ·split at h
    ·cases h;decide
    ·split at h
     ·cases h;decide
     ·cases h
theorem atw {p q:Int}(hs:ab7 p=true)(hq:q∈aa5 p):ab7 q=false:=by
 have hb:44032≤p∧p≤55203:=by simpa[ab7] using hs
 unfold aa5 at hq
 split at hq
 ·simp at hq
  simp[ab7];omega
 ·simp at hq
  simp[ab7];omega
end Go.Vf
namespace Go.Proofs.YtfhpgmlfgjfknaaGreatDoor
open Go.RowKit Go.Vf Go.Maps
def agw (G:Int→List Int)(N:Nat)(p:Int):List Int:=if G p=[] then [] else (wh G N p).take 19
theorem az6 {G:Int→List Int}{p q:Int}(h:Lead G p q):G p≠ []:=by
 induction h with
 | one h=>intro e;rw[e] at h;simp at h
 | more h _ _=>intro e;rw[e] at h;simp at h
theorem ac2 {L:List Mk}{p:Int}(h:aab L p≠ []): ∃m∈L,m.point=p:=by
 cases hp:aab L p with
 | nil=>exact absurd hp h
 | cons a r=>
  obtain⟨m,hm,he,_⟩:=ae1 (L:=L) (p:=p) (q:=a) (by rw[hp];simp)
  exact⟨m,hm,he⟩
theorem a34 {L:List Mk}(x:Int)(h:ade L x=false):aab L x=[]:=by
 unfold ade at h
 unfold aab
 cases hm:aau L x with
 | none=>rfl
 | some m=>rw[hm] at h;simp at h
theorem apo {L:List Mk}{S:TS}(hI:Inv (aab L) S [])(hmet: ∀x∈L.map Mk.point,S.met x≠0)(hno: ∀m∈L,¬Lead (aab L) m.point m.point):a5n (aab L) S.ord∧ ∀N,S.ord.length+1≤N→ ∀p,ad9 (ade L) (aab L) S.ord (fun _=>[]) p=agw (aab L) N p:=by
 have hno': ∀x,¬Lead (aab L) x x:=fun x h=>by
  obtain⟨m,hm,e⟩:=ac2 (az6 h)
  exact hno m hm (by rw[e];exact h)
 have ht:a5n (aab L) S.ord:=fun pre x post e y hy=>hI.topo pre x post e (hno' x) y hy
 refine⟨ht,fun N hN p=> ?_⟩
 rw[a6o ht hN (has:=ade L) a34 S.ord [] (fun _=>[]) rfl (by simp) p]
 unfold agw
 by_cases hG:aab L p=[]
 ·simp[hG]
 ·obtain⟨m,hm,e⟩:=ac2 hG
  have hp:p∈S.ord:=by
   have h1:=hmet p (List.mem_map.2 ⟨m,hm,e⟩)
   rcases hI.met_range p with h | ⟨h,_⟩ | ⟨h,_⟩
   ·exact absurd h h1
   ·rw[hI.shut] at h;simp at h
   ·exact h
  rw[if_pos ⟨hp,hG⟩,if_neg hG]
theorem acx {t:List UInt8}{L:List Mk}{E:Int→List Int}(h:aaw t=.ok (L,E)):t.length≤65536∧aar (aa3 10 t) 0 []=.ok L∧(∀m∈L,¬Lead (aab L) m.point m.point)∧(∀m∈L,(E m.point).length≤18)∧
  ∃ord,a5n (aab L) ord∧(∀m∈L,m.point∈ord)∧ ∀N,ord.length+1≤N→ ∀p,E p=agw (aab L) N p:=by
 unfold aaw at h
 split at h
 ·cases h
 ·rename_i hlen
  split at h
  ·cases h
  ·rename_i L' hl
   obtain⟨S,hS,hI,hmet⟩:=aer (abc (by omega) hl).2.2.2.2
   rw[hS] at h
   simp only at h
   split at h
   ·cases h
   ·rename_i hf
    split at h
    ·cases h
    ·rename_i hg
     simp only[Except.ok.injEq,Prod.mk.injEq] at h
     obtain⟨rfl,rfl⟩:=h
     have hord: ∀m∈L',m.point∈S.ord:=fun m hm=>by
      have h1:=hmet m.point (List.mem_map.2 ⟨m,hm,rfl⟩)
      rcases hI.met_range m.point with h | ⟨h,_⟩ | ⟨h,_⟩
      ·exact absurd h h1
      ·rw[hI.shut] at h;simp at h
      ·exact h
     have hno: ∀m∈L',¬Lead (aab L') m.point m.point:=fun m hm hl=>by
      have h1:=List.find?_eq_none.1 hf m hm
      have:=(hI.loop m.point).1.2 ⟨hord m hm,hl⟩
      rw[this] at h1
      simp at h1
     obtain⟨ht,he⟩:=apo hI hmet hno
     refine⟨by omega,hl,hno,fun m hm=> ?_,S.ord,ht,hord,he⟩
     have h1:=List.find?_eq_none.1 hg m hm
     simp at h1
     omega
theorem azw {t:List UInt8}{L:List Mk}(hlen:t.length≤65536)(hl:aar (aa3 10 t) 0 []=.ok L)(hno: ∀m∈L,¬Lead (aab L) m.point m.point){M:Nat}(hs: ∀N,M≤N→ ∀m∈L,(agw (aab L) N m.point).length≤18):
  ∃E M',aaw t=.ok (L,E)∧ ∀N,M'≤N→ ∀p,E p=agw (aab L) N p:=by
 obtain⟨S,hS,hI,hmet⟩:=aer (abc hlen hl).2.2.2.2
 obtain⟨ht,he⟩:=apo hI hmet hno
 refine⟨ad9 (ade L) (aab L) S.ord (fun _=>[]),S.ord.length+1,?_,he⟩
 unfold aaw
 rw[if_neg (by omega),hl]
 simp only[hS]
 have h1:L.find? (fun m=>decide (S.loops m.point>0))=none:=by
  rw[List.find?_eq_none]
  intro m hm hgt
  have hgt':S.loops m.point>0:=by simpa using hgt
  rcases(hI.loop m.point).2 with h | h
  ·exact hno m hm ((hI.loop m.point).1.1 h).2
  ·omega
 have h2:L.find? (fun m=>decide (18<(ad9 (ade L) (aab L) S.ord (fun _=>[]) m.point).length))=none:=by
  rw[List.find?_eq_none]
  intro m hm hgt
  have:=hs (S.ord.length+1+M) (by omega) m hm
  rw[←he (S.ord.length+1+M) (by omega)] at this
  simp at hgt
  omega
 rw[h1]
 simp only[h2]
theorem aye {G:Int→List Int}: ∀(k:Nat) (p z:Int),z∈wh G k p→z=p∨ ∃q,z∈G q:=by
 intro k
 induction k with
 | zero=>intro p z hz;simp[wh] at hz;exact .inl hz
 | succ k ih=>
  intro p z hz
  unfold wh at hz
  split at hz
  ·simp at hz;exact .inl hz
  ·obtain⟨y,hy,hz⟩:=List.mem_flatMap.1 hz
   rcases ih y z hz with rfl | h
   ·exact .inr ⟨p,hy⟩
   ·exact .inr h
theorem ah9 {z:Int}(h:aed z=true):ab7 z=false:=by
 unfold aed at h
 cases hs:ab7 z with
 | false=>rfl
 | true=>rw[hs] at h;simp at h
theorem a8k {t:List UInt8}{L:List Mk}{E:Int→List Int}(h:aaw t=.ok (L,E)){p z:Int}(hp:ab7 p=false)(hz:z∈aak E p):ab7 z=false∧aak E z=[z]:=by
 obtain⟨hlen,hl,hno,_,ord,ht,hord,he⟩:=acx h
 have hok:=(abc hlen hl).1
 have hEz: ∀z,aab L z=[]→aak E z=[z]:=fun z hG=>by
  unfold aak
  rw[if_pos (by rw[he _ (Nat.le_refl _)];unfold agw;rw[if_pos hG])]
 by_cases hG:aab L p=[]
 ·rw[hEz p hG] at hz
  simp at hz
  subst hz
  exact⟨hp,hEz z hG⟩
 ·obtain⟨m,hm,e⟩:=ac2 hG
  have hEp:E p=(wh (aab L) (ord.length+1) p).take 19:=by rw[he _ (Nat.le_refl _)];unfold agw;rw[if_neg hG]
  have hz2:z∈wh (aab L) (ord.length+1) p:=by
   unfold aak at hz
   split at hz
   ·rename_i e0
    rw[hEp,List.take_eq_nil_iff] at e0
    rcases e0 with e0 | e0
    ·omega
    ·exact absurd e0 (a2c _ _)
   ·rw[hEp] at hz;exact List.mem_of_mem_take hz
  have hpo:p∈ord:=by rw[←e];exact hord m hm
  obtain⟨pre,post,hs⟩:=List.append_of_mem hpo
  have hGz:=a5r ht (Nat.le_refl _) pre.length pre p post (Nat.le_refl _) hs z hz2
  refine⟨?_,hEz z hGz⟩
  rcases aye _ _ _ hz2 with rfl | ⟨q,hq⟩
  ·exact hp
  ·obtain⟨m',hm',_,hq'⟩:=ae1 hq
   exact ah9 ((hok m' hm').2.1 z hq')
theorem a6d {z:Int}(h:aed z=true):InI z:=by
 unfold aed at h
 simp only[Bool.and_eq_true,decide_eq_true_eq] at h
 unfold InI
 omega
theorem a09 {t:List UInt8}{L:List Mk}{E:Int→List Int}(h:aaw t=.ok (L,E)){p z:Int}(hz:z∈aak E p):(InI p→InI z):=by
 obtain⟨hlen,hl,hno,_,ord,ht,hord,he⟩:=acx h
 have hok:=(abc hlen hl).1
 have hEz: ∀z,aab L z=[]→aak E z=[z]:=fun z hG=>by
  unfold aak
  rw[if_pos (by rw[he _ (Nat.le_refl _)];unfold agw;rw[if_pos hG])]
 by_cases hG:aab L p=[]
 ·rw[hEz p hG] at hz
  simp at hz
  subst hz
  exact id
 ·obtain⟨m,hm,e⟩:=ac2 hG
  have hEp:E p=(wh (aab L) (ord.length+1) p).take 19:=by rw[he _ (Nat.le_refl _)];unfold agw;rw[if_neg hG]
  have hz2:z∈wh (aab L) (ord.length+1) p:=by
   unfold aak at hz
   split at hz
   ·rename_i e0
    rw[hEp,List.take_eq_nil_iff] at e0
    rcases e0 with e0 | e0
    ·omega
    ·exact absurd e0 (a2c _ _)
   ·rw[hEp] at hz;exact List.mem_of_mem_take hz
  rcases aye _ _ _ hz2 with rfl | ⟨q,hq⟩
  ·exact id
  ·obtain⟨m',hm',_,hq'⟩:=ae1 hq
   exact fun _=>a6d ((hok m' hm').2.1 z hq')
theorem a2z {t:List UInt8}{L:List Mk}{E:Int→List Int}(h:aaw t=.ok (L,E)){p z:Int}(hp:InI p)(hz:z∈aa4 E p):InI z:=by
 unfold aa4 at hz
 split at hz
 ·rename_i hs
  obtain⟨q,hq,hz⟩:=List.mem_flatMap.1 hz
  exact a09 h hz ((agl hs).1 q hq)
 ·exact a09 h hz hp
theorem a4u {L:List Mk}(hok: ∀m∈L,a2b m)(p:Int):0≤aaa L p∧aaa L p≤254:=by
 unfold aaa
 cases hm:aau L p with
 | none=>simp
 | some m=>exact⟨(hok m (List.mem_of_find?_eq_some hm)).2.2.1,(hok m (List.mem_of_find?_eq_some hm)).2.2.2⟩
end Go.Proofs.YtfhpgmlfgjfknaaGreatDoor
