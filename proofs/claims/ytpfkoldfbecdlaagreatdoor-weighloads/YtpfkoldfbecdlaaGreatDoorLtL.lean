/- WeighLoads: by any two texts, the error, of which of them and the line are the document's, or the tables that are read tell the two texts that the document's tell, neither longer than what was read: the statement holds of the program, its listed tables being as their initialisers lay them. -/
import Derived.Test.YtpfkoldfbecdlaaGreatDoorCards
import Derived.Test.YtpfkoldfbecdlaaGreatDoorTie
import Derived.Test.YtpfkoldfbecdlaaGreatDoorJ38
import Derived.ShutString
import Derived.ChangeOld
import Derived.Below
namespace Go.Proofs.YtpfkoldfbecdlaaGreatDoor
open Go.ChangeShapes Go.WideShapes Go.ChangeAt Go.RowKit
open Go.ChangeMaps (open_string shut_string)
theorem amh:ownKnob Tryz.prog.godebug=none:=by kernel_rfl
set_option maxHeartbeats 1000000 in
set_option maxRecDepth 100000 in
theorem ajc (os:Os)(started:os.Started)(H:Type)(enc:TypeId×Value→H):
  ReturnsInHanded {} Tryz.checked os 3 .any (fun w args=>(Rows.weighLoadsSpec.pre enc Tryz.prog Tryz.f3 [] false w args∧laidMetH Tryz.prog ao1 w)∧sizedMet enc Tryz.prog Tryz.f3 (OpenSpec.ofChange Rows.weighLoadsSpec) false w args) (Rows.weighLoadsSpec.post enc Tryz.prog Tryz.f3 false true false false):=by
 refine ahp (C:=Tryz.checked) (X:=fun w _=>laidMetH Tryz.prog ao1 w) (fun _ _ _ hh h=>h.of_heap hh) amh started (by kernel_rfl) Tryz.func3
  (ChangeSpec.witness_shaped (enc:=enc) (C:=Tryz.checked) (os:=os) (X:=fun w _=>laidMetH Tryz.prog ao1 w) false (World.laidAll Tryz.prog os ao1) #[.string ByteArray.empty,.string ByteArray.empty] 8 (World.laidAll_os _ _ _) (aqq os _) (by kernel_rfl) (by kernel_rfl) (by kernel_rfl) (azb os _)) ?_
 intro W base args ds gs before hval0 hW hwt hL hS
 have hval: ∀(j:Nat) t v,Tryz.f3.params[j]? =some t→args[j]? =some v→Value.okWide Tryz.prog W .any base t v:=hval0
 have hW':=hW
 obtain⟨p,q,hA0,hV,rfl,hfz,hnd⟩:=hW
 have hA:DataW.TrodAll enc Tryz.prog W 0 (fun _=>true) true Tryz.f3.params.toList args.toList ds p:=hA0
 rw[Tryz.params3] at hA hval
 obtain⟨v0,vs0,d0,ds0,p0,q0,hargs,rfl,rfl,h0,r0⟩:=trodAll_cons hA
 obtain⟨v1,vs1,d1,ds1,p1,q1,rfl,rfl,rfl,h1,r1⟩:=trodAll_cons r0
 obtain⟨rfl,rfl,rfl⟩:=trodAll_nil r1
 obtain rfl:args= #[v0,v1]:=by cases args;simp_all
 obtain⟨rfl,rfl⟩:=trodVars_none hV
 obtain⟨a0,rfl,rfl,rfl,w0⟩:=open_string Tryz.underlying9 (hval 0 9 v0 rfl rfl) h0
 obtain⟨a1,rfl,rfl,rfl,w1⟩:=open_string Tryz.underlying9 (hval 1 9 v1 rfl rfl) h1
 have z0:a0.size≤281474976710656:=by
  have h:=sized_string hwt (j:=0) (t:=9) (by kernel_rfl) rfl
  rw[←Lib.size_eq] at h
  unfold reachBytes at h
  omega
 have z1:a1.size≤281474976710656:=by
  have h:=sized_string hwt (j:=1) (t:=9) (by kernel_rfl) rfl
  rw[←Lib.size_eq] at h
  unfold reachBytes at h
  omega
 clear hA0 hval0 hwt
 simp only[List.append_nil] at hW'
 refine(au9 a0 a1 z0 z1 W (ao5 hS) (aoa hL) (ar3 hL)).mono fun e W' ⟨he,bel⟩=> ?_
 subst he
 exact⟨_,rfl,_,_,_,[],[],[],hW',trodAll_mk1 (shut_bool Tryz.underlying4 _),(trodAll_cons_mk (shut_string Tryz.underlying9 w0) (trodAll_cons_mk (shut_string Tryz.underlying9 w1) trodAll_mk0)),rfl,bel.frame _,fun h=>by cases h⟩
theorem aj8:Rows.WeighLoadsSaid:=
 OpenClaim.holds_of_wide 3 Tryz.f3 rfl rfl rfl rfl rfl rfl rfl ⟨rfl,rfl,rfl,rfl,rfl⟩ rfl rfl rfl rfl rfl (by kernel_rfl) Tryz.func3 (by kernel_rfl)
  (of_decide_eq_true (by kernel_rfl)) (by unfold Func.isWrapper;first | (rw[if_pos (by decide+kernel)];kernel_rfl) | (rw[if_neg (by decide+kernel)];exact⟨rfl,rfl⟩))
  (fun os started H enc _=>ajc os started H enc)
theorem weighLoads_card:Rows.WeighLoadsCardSaid:=
 Claim7.holds_tied_plain_at .later [] [.data,.data,.data,.data,.data,.data,.pinned,.pinned] true (true, "c615a275c397ab3d81c7b9dfc2a079e7f7fb5aa2460d617acb930b18e79e1a4b") true
  aj8 (fun _ h=>by cases h) (by kernel_rfl) (fun _ h=>by cases h) weighLoads_row_tie rfl ⟨rfl,rfl⟩ (by kernel_rfl) rfl
  (fun f fn hf hfn=>by
   obtain rfl:f=3:=Option.some.inj ((show Tryz.prog.funcNamed Rows.weighLoadsRow.func=some 3 by kernel_rfl).symm.trans hf)|>.symm
   obtain rfl:fn=Tryz.f3:=(Option.some.inj (Tryz.func3.symm.trans hfn)).symm
   exact⟨by kernel_rfl,fun j t ht=>by
    rw[Tryz.params3] at ht
    have hm:t∈[9,9]:=by simpa using Array.mem_of_getElem? ht
    have hall:([9,9].all fun u=> !Tryz.prog.wantsStandIn u)=true:=by kernel_rfl
    exact(show Tryz.prog.wantsStandIn t=false by simpa using List.all_eq_true.1 hall t hm)⟩)
  (by kernel_rfl)
#print axioms weighLoads_card
end Go.Proofs.YtpfkoldfbecdlaaGreatDoor
