import Derived.Test.YtaahkgkdpnnhhaaGreatSq17
set_option maxHeartbeats 9999999
set_option maxRecDepth 99999
set_option linter.all false
namespace Go.Proofs.YtaahkgkdpnnhhaaGreat
open Go.RowKit Fo
theorem Ely.appendK{α:Type}(Y:Ely α)(a:Option Nat)(es junk vs:List α)(v:Value)(W:World)(ha:Y.Rw W a es junk)(hv:Y.Sl W v vs)(h20:es.length+vs.length≤1000000):
  ∃u W' a' junk',(∀ty,(Builtin.append_ #[Y.s,Y.s] ty #[.slice (adr a) es.length (es.length+junk.length),v]).run Tryz.prog W=.ok u W')∧u=.slice (adr a') (es.length+vs.length) (es.length+vs.length+junk'.length)∧
   Y.Rw W' a' (es++vs) junk'∧(∀g,a'=some g→a=some g∨W.heap.size≤g)∧Frm (fun k=>a=some k) W W'∧(a'=a∨Frm (fun _=>False) W W'):=by
 obtain⟨i0,hi,h3,h40,hz⟩:=Y.info;have hm:=ha.small;have hsrc:Src Tryz.prog i0.size Y.s v vs.length (vs.flatMap Y.cell) W:=by
  rcases hv with⟨rfl,rfl⟩ | ⟨gv,o,cap,xs,rfl,hx,hl,he⟩
  ·exact Src.ofNil W Y.us 0
  ·exact Src.ofSlice W Y.us ⟨gv,o*Y.n,none⟩ vs.length cap _ (by rw[Y.len,h3]) (Ely.Sl.cells hx hl he) (Y.oneL vs)
 by_cases hroom:vs.length≤junk.length
 ·cases a with
  | none=>
   obtain⟨rfl,rfl⟩:=ha.nil rfl;have hv0:vs=[]:=List.length_eq_zero_iff.1 (by simpa using hroom);subst hv0;refine⟨_,W,none,[],fun ty=>?_,rfl,⟨fun g q=>(by cases q),fun _=>⟨rfl,rfl⟩,by simp⟩,fun g q=>(by cases q),Frm.refl _ _,.inl rfl⟩;have:=run_append_nothing (P:=Tryz.prog) W Y.s Y.s ty Y.t i0 Y.us hi none 0 0 (nR _) v hsrc;exact this
  | some g=>
   have hg:=ha.arr g rfl;refine⟨_,_,some g,junk.drop vs.length,fun ty=>run_append_room_src (P:=Tryz.prog) W Y.s Y.s ty Y.t i0 Y.us hi g 0 es.length (es.length+junk.length) v _ _ hsrc (by omega)
    (fun k hk=>by
     rw[Y.len]at hk;have:(es.length+vs.length)*Y.n≤(es.length+junk.length)*Y.n:=Nat.mul_le_mul_right _ (by omega);rw[Nat.add_mul,Nat.add_mul]at this;rw[hg.cell,h3,Array.getElem?_eq_getElem (by rw[Y.size,lP,Nat.add_mul];omega)];rfl) (fun k hk=>hg.frozen _),?_,⟨fun g' q=>?_,fun q=>(by cases q),?_⟩,fun g' q=>.inl q,?_,.inl rfl⟩
   ·simp[adr];omega
   ·cases q
    have:=IsC.sets (vs.flatMap Y.cell) (cs:=(es++junk).flatMap Y.cell) (es.length*Y.n) hg (by
     rw[Y.len,Y.len,lP,←Nat.add_mul];exact Nat.mul_le_mul_right _ (by omega))
    rw[Y.spl]at this;have e1:Go.Proofs.YtaahkgkdpnnhhaaGreat.spl (es++junk) es.length vs=es++vs++junk.drop vs.length:=by
     unfold Go.Proofs.YtaahkgkdpnnhhaaGreat.spl;rw[List.take_left,←List.drop_drop,List.drop_left]
    rw[e1]at this;rw[h3,Nat.zero_add];exact this
   ·simp;omega
   ·exact Frm.sets (S:=fun k=>some g=some k) _ rfl _ _
 ·have hfc:(Builtin.firstCells i0.size es.length (.slice (adr a) es.length (es.length+junk.length))).run Tryz.prog W.drew=.ok (es.flatMap Y.cell).toArray W.drew:=by
   cases a with
   | none=>
    obtain⟨rfl,rfl⟩:=ha.nil rfl;exact run_firstCells_none (P:=Tryz.prog) W.drew i0.size 0 0 0
   | some g=>
    have hg:=ha.arr g rfl;exact run_firstCells_some (P:=Tryz.prog) W.drew i0.size es.length ⟨g,0,none⟩ es.length _ (es.flatMap Y.cell) (by rw[Y.len,h3]) (by
     have:=Ely.Sl.cells (Y:=Y) (w:=W.drew) (g:=g) (o:=0) (xs:=es++junk) (es:=es) hg.drew (by rw[lP];omega) (by simp)
     rw[Nat.zero_mul]at this;exact this)
  have hr:=fun ty=>run_append_grow_src (P:=Tryz.prog) W Y.s Y.s ty Y.t i0 _ Y.us hi hz (adr a) es.length (es.length+junk.length) (es.flatMap Y.cell) hfc v vs.length (vs.flatMap Y.cell) hsrc (by omega) (by omega) (by rw[h40];exact Y.nsc (by omega) (by omega));have hge:=grownCap_ge W (es.length+vs.length) (es.length+junk.length) Y.t;have hle:=grownCap_le_maxLen W (es.length+vs.length) (es.length+junk.length) Y.t (by simp[maxLen];omega);generalize grownCap W (es.length+vs.length) (es.length+junk.length) Y.t=gc at *;refine⟨_,_,some W.heap.size,List.replicate (gc -(es.length+vs.length)) Y.z,hr,?_,⟨fun g q=>?_,fun q=>(by cases q),?_⟩,fun g q=>(by cases q;exact .inr (nR _)),?_,.inr ((Frm.drew _ W).trans (Frm.alloc _ _ _))⟩
  ·simp[adr];omega
  ·cases q
   have:=IsC.new W.drew ((es.flatMap Y.cell++vs.flatMap Y.cell).toArray++Builtin.zeroCells Y.zv.cells (gc -(es.length+vs.length))) Y.t
   have e:Y.row (es++vs++List.replicate (gc -(es.length+vs.length)) Y.z)=(es.flatMap Y.cell++vs.flatMap Y.cell).toArray++Builtin.zeroCells Y.zv.cells (gc -(es.length+vs.length)):=by
    rw[Y.zeroL];simp[Ely.row]
   rw[e];exact this
  ·simp;omega
  ·exact(Frm.drew _ W).trans (Frm.alloc _ _ _)
theorem lC{P:Program}{w:World}{o:Oper}{a:Act}{K:Act→World→Prop}{Q:Exit→Act→World→Prop}(s x:Operand)(t tn:TypeId)
  (ho:o.op=.call {callee:=.builtin .append,args:=#[s,x],argTypes:=#[t,tn]}) (tt:Nat) (hd:o.dst=some tt) (vs vx:Value) (hs:a.eval s=vs) (hx:a.eval x=vx)
  (v':Value) (w':World) (hr:(Builtin.append_ #[t,tn] o.type #[vs,vx]).run P w=.ok v' w') (h:K (a.put (some tt) v') w'):Oper.wp P o a w K Q:=
 pP s x t tn ho vs vx hs hx v' w' hr (by rw[hd];exact h)
theorem Sp.layRoots{w:World}{S:Nat}{A:SA}{f g:fZ}(hbx:IsC w S (aL A f) 57)(hnd:iZ w A.ga A.ns A.nj f.nodes)(hln:A.ns.length=f.cur.length)(hco:y64.Sl w A.cv f.com){gr:Nat}{rj:List (Int×Int)}(hg:IsC w gr (yT.row (g.roots++rj)) 77)(hrs:g.roots.length+rj.length≤maxLen)(hn:∀b d,g.nodes b=some d→f.nodes b=some d)(hl:g.cur.length=f.cur.length)(h1:g.next=f.next)(h2:g.gen=f.gen)(h3:g.com=f.com):
  Sp (w.setCell ⟨S,2,none⟩ (.slice (some ⟨gr,0,none⟩) g.roots.length (g.roots.length+rj.length))) S {A with gr:=gr,rj:=rj} g:=by
 have hF:Frm (fun k=>k=S) w (w.setCell ⟨S,2,none⟩ (.slice (some ⟨gr,0,none⟩) g.roots.length (g.roots.length+rj.length))):=Frm.set (S:=fun k=>k=S) w (p:=⟨S,2,none⟩) rfl _;refine⟨?_,(hnd.frm hF (fun g cs k=>k.type_ne hbx (by decide)) (hnd.arr.type_ne hbx (by decide))).sub hn,by show A.ns.length=_;rw[hl];exact hln,hg.frm hF (hg.type_ne hbx (by decide)),hrs,by rw[h3];exact hco.frm hF fun g cs k=>k.type_ne hbx (by decide)⟩;have:=hbx.set 2 (.slice (some ⟨gr,0,none⟩) g.roots.length (g.roots.length+rj.length));have e:(aL A f).setIfInBounds 2 (.slice (some ⟨gr,0,none⟩) g.roots.length (g.roots.length+rj.length))=aL {A with gr:=gr,rj:=rj} g:=by
  unfold aL;rw[hl,h1,h2];rfl
 rw[e]at this;exact this
theorem Sp.setNext{w:World}{S:Nat}{A:SA}{f:fZ}(h:Sp w S A f)(v:Int):Sp (w.setCell ⟨S,3,none⟩ (.int .i64 v)) S A {f with next:=v}∧Frm (fun k=>k=S) w (w.setCell ⟨S,3,none⟩ (.int .i64 v)):=by
 have hF:Frm (fun k=>k=S) w (w.setCell ⟨S,3,none⟩ (.int .i64 v)):=Frm.set (S:=fun k=>k=S) w (p:=⟨S,3,none⟩) rfl _;refine⟨⟨?_,h.v.nds.frm hF (fun g cs k=>k.type_ne h.box (by decide)) (h.v.nds.arr.type_ne h.box (by decide)),h.v.ln,h.v.rts.frm hF (h.v.rts.type_ne h.box (by decide)),h.v.rs,h.v.com.frm hF fun g cs k=>k.type_ne h.box (by decide)⟩,hF⟩;exact h.box.set 3 (.int .i64 v)
theorem zA{f:fZ}(hI:IC f){t:Nat}(ht:t<f.roots.length)(h16:f.roots.length<16)(hn:0≤f.next∧f.next<65535)(w:World)(S:Nat)(A:SA)(hS:Sp w S A f):
  Calls Tryz.prog 66 #[.pointer (some ⟨S,0,none⟩),.int .i64 t] w fun r w'=>r=.returned (.tuple #[.int .i64 f.next,.int .i64 0])∧ZcP w S A (cS f t) w':=by
 obtain⟨_,_,s2,s3,_⟩:=hS.cells;obtain⟨_,r1⟩:=hS.v.root ht;have h0:0≤(f.roots.getD t (0,0)).2:=(hI.rb _ (aP ht)).1;have hrb:(f.roots.getD t (0,0)).2=(aB f t:Int):=by unfold aB;omega
 rw[hrb]at r1;have htI:(t:Int) <(f.roots.length:Int):=by omega
 have h16I:¬((16:Int)≤(f.roots.length:Int)):=by omega
 have hnI:¬((65535:Int)≤f.next):=by omega
 have hwn:IntKind.i64.wrap (f.next+1)=f.next+1:=IntWalk.i64_in _ ⟨by omega,by omega⟩;have HRB:=aA hrb;have hbd:=aFU;obtain⟨rb,hrbe⟩:=eZ (aB f t);obtain⟨nx,hnx⟩:=eZ (f.next);rw[hrbe]at r1 HRB;have HNX:=aA (aI hnx hrbe);rw[hnx]at s3 hnI hwn;rw[hnx];have HS:=aA hS;clear hrb h0 hrbe hnx;go_enter Tryz.func66,Tryz.ntmps66;go_wp2;have hq0:w.drew.cell? ⟨S,2,none⟩=some (.slice (some ⟨A.gr,0,none⟩) f.roots.length (f.roots.length+A.rj.length))∧w.drew.cell? ⟨A.gr,t*2+1,none⟩=some (.int .i64 (rb:Int)):=⟨s2,r1⟩;refine aZ (fun W=>W.cell? ⟨S,2,none⟩=some (.slice (some ⟨A.gr,0,none⟩) f.roots.length (f.roots.length+A.rj.length))∧W.cell? ⟨A.gr,t*2+1,none⟩=some (.int .i64 (rb:Int))) 19 (by kernel_rfl) ?_;refine tJ 0 24 (.pointer (some ⟨S,0,none⟩)) rfl hq0 ?_;simp only[Act.put,sB,sZ,sS];refine tJ 1 25 (.pointer (some ⟨S,0,none⟩)) rfl hq0 ?_;simp only[Act.put,sB,sZ,sS];refine tJ 2 26 (.pointer (some ⟨S,0,none⟩)) rfl hq0 ?_;simp only[Act.put,sB,sZ,sS];refine tJ 3 27 (.pointer (some ⟨S,2,none⟩)) rfl hq0 ?_;simp only[Act.put,sB,sZ,sS];refine tJ 4 28 (.slice (some ⟨A.gr,0,none⟩) f.roots.length (f.roots.length+A.rj.length)) rfl hq0 ?_;simp only[Act.put,sB,sZ,sS];refine tJ 5 29 (.int .i64 nx) rfl hq0 ?_;simp only[Act.put,sB,sZ,sS];refine tJ 6 30 (.pointer (some ⟨S,0,none⟩)) rfl hq0 ?_;simp only[Act.put,sB,sZ,sS];refine tJ 7 31 (.pointer (some ⟨S,0,none⟩)) rfl hq0 ?_;simp only[Act.put,sB,sZ,sS];refine tJ 8 32 (.pointer (some ⟨S,2,none⟩)) rfl hq0 ?_;simp only[Act.put,sB,sZ,sS];refine tJ 9 33 (.slice (some ⟨A.gr,0,none⟩) f.roots.length (f.roots.length+A.rj.length)) rfl hq0 ?_;simp only[Act.put,sB,sZ,sS];refine tJ 10 34 (.int .i64 t) rfl hq0 ?_;simp only[Act.put,sB,sZ,sS];refine tJ 11 35 (.pointer (some ⟨A.gr,t*2,none⟩)) rfl hq0 ?_;simp only[Act.put,sB,sZ,sS];refine tJ 12 36 (.pointer (some ⟨A.gr,t*2+1,none⟩)) rfl hq0 ?_;simp only[Act.put,sB,sZ,sS];refine tJ 13 37 (.int .i64 (rb:Int)) rfl hq0 ?_;simp only[Act.put,sB,sZ,sS];refine tJ 14 38 (.agg #[.int .i64 nx,.int .i64 (rb:Int)]) rfl hq0 ?_;simp only[Act.put,sB,sZ,sS];refine oE 15 rfl fun K2 hK2=>?_;go_simp;obtain⟨G,HG⟩:=exH (w.heap.size);obtain⟨W1,HW1⟩:=exH ((w.alloc (.cells #[.int .i64 nx,.int .i64 (rb:Int)] 77)).drew);rw[←HW1.out,←HG.out];have hB1:Bl w W1:=by rw[HW1.out];exact((bQ _ w).alloc (nR _) _).drew
 have hsl1:yT.Sl W1 (.slice (some ⟨G,0,none⟩) 1 1) [(nx,(rb:Int))]:=by
  rw[HW1.out,HG.out];exact(Ely.Sl.new (Y:=yT) w (nx,(rb:Int)) rfl).below (bQ _ _).drew
 have hS1:=HS.out.below hB1;have hq1:W1.cell? ⟨S,2,none⟩=some (.slice (some ⟨A.gr,0,none⟩) f.roots.length (f.roots.length+A.rj.length))∧W1.cell? ⟨A.gr,t*2+1,none⟩=some (.int .i64 (rb:Int)):=⟨hS1.cells.2.2.1,by rw[(hS1.v.root ht).2,HRB.out]⟩;have hrw:yT.Rw W1 (some A.gr) f.roots A.rj:=⟨fun g e=>(by cases e;exact hS1.v.rts),fun e=>(by cases e),hS1.v.rs⟩;obtain⟨u,W2,a2,rj2,hap,hu,hrw2,hnew,hF2,hold⟩:=yT.appendK (some A.gr) f.roots A.rj [(nx,(rb:Int))] _ W1 hrw hsl1 (by simp;omega);obtain⟨gr2,rfl⟩:∃g,a2=some g:=by
  cases a2 with
  | none=>have:=(hrw2.nil rfl).1;simp at this
  | some g=>exact⟨g,rfl⟩
 have hSgr:S≠A.gr:=hS1.box.type_ne hS1.v.rts (by decide);have hFr2:Frm (fun k=>k=A.gr) W1 W2:=hF2.wide fun k _ e=>by simp only[sJ]at e;exact e.symm
 have hbx2:IsC W2 S (aL A f) 57:=hS1.box.frm hFr2 hSgr;have c2:W2.cell? ⟨S,2,none⟩=some (.slice (some ⟨A.gr,0,none⟩) f.roots.length (f.roots.length+A.rj.length)):=hbx2.c rfl;have z2:=hbx2.frozen 2;refine hK2 _ _ (fun _=>hq1) ?_;clear hK2 K2 hq0;refine oE 16 rfl fun K2 hK2=>?_;refine lC _ _ _ _ rfl 40 rfl _ _ rfl rfl u W2 (hap _) ?_;simp only[Act.put,sB,sZ,sS];have hcg:W2.cell? ⟨A.gr,t*2+1,none⟩=some (.int .i64 (rb:Int)):=by
  rcases hold with e | e
  ·cases e
   rw[(hrw2.arr A.gr rfl).cell];have:=yT.at (f.roots++[(nx,(rb:Int))]++rj2) (i:=t) (j:=1) (by simp;omega) (by decide);have e2:(f.roots++[(nx,(rb:Int))]++rj2).getD t yT.z=f.roots.getD t (0,0):=by rw[cV,if_pos (by simp;omega),cV,if_pos ht];rfl
   rw[e2]at this;refine(show(yT.row (f.roots++[(nx,(rb:Int))]++rj2))[t*2+1]?=_ from this).trans ?_;show some (Value.int .i64 (f.roots.getD t (0,0)).2)=_
   rw[HRB.out]
  ·have:=hS1.v.rts.frm e id
   rw[this.cell,←hS1.v.rts.cell];exact hq1.2
 have hq2:W2.cell? ⟨S,2,none⟩=some (.slice (some ⟨A.gr,0,none⟩) f.roots.length (f.roots.length+A.rj.length))∧W2.cell? ⟨A.gr,t*2+1,none⟩=some (.int .i64 (rb:Int)):=⟨c2,hcg⟩;have hu2:u=.slice (some ⟨gr2,0,none⟩) (f.roots.length+1) (f.roots.length+1+rj2.length):=hu;subst hu2;refine hK2 _ _ (fun _=>hq2) ?_;clear hK2 K2 hq1 hu hap;refine oE 17 rfl fun K2 hK2=>?_;go_simp;refine hK2 _ _ (fun _=>hq2) ?_;clear hK2 K2;refine oE 18 rfl fun K2 hK2=>?_;go_simp;refine hK2 _ _ (fun _=>hq2) ?_;clear hK2 K2;refine oE 19 rfl fun K2 hK2=>?_;go_simp;refine hK2 _ _ (fun q=>absurd rfl q) ?_;clear hK2 K2;refine aV (by kernel_rfl) ?_ _;have hrts:=hS1.v.rts;have hSp3:=Sp.layRoots (g:={f with roots:=f.roots++[(nx,(rb:Int))]}) hbx2 (hS1.v.nds.frm hFr2 (fun g cs k=>k.type_ne hrts (by decide)) (hS1.v.nds.arr.type_ne hrts (by decide))) hS1.v.ln (hS1.v.com.frm hFr2 fun g cs k=>k.type_ne hrts (by decide)) (hrw2.arr gr2 rfl) hrw2.small (fun _ _ q=>q) rfl rfl rfl rfl;have hle:(f.roots++[(nx,(rb:Int))]).length=f.roots.length+1:=by simp
 simp only[hle]at hSp3;obtain⟨w3,hw3⟩:=eZ (W2.setCell ⟨S,2,none⟩ (.slice (some ⟨gr2,0,none⟩) (f.roots.length+1) (f.roots.length+1+rj2.length)));rw[hw3]at hSp3;rw[hw3];have hF3:Frm (fun k=>k=S∨k=A.ga∨k=A.gr) w w3:=((Frm.of_below hB1).trans (hFr2.wide fun _ _ e=>.inr (.inr e))).trans (by rw[←hw3];exact(Frm.set (S:=fun k=>k=S) W2 (p:=⟨S,2,none⟩) rfl _).wide fun _ _ e=>.inl e);obtain⟨_,_,_,v3,_⟩:=hSp3.cells;have v3':w3.cell? ⟨S,3,none⟩=some (.int .i64 nx):=by rw[←HNX.out.1];exact v3
 have z3:=hSp3.box.frozen 3;obtain⟨hSp4,hF4⟩:=hSp3.setNext (nx+1);have hcl:∀b d,(cS f t).nodes b=some d→f.nodes b=some d:=fun _ _ q=>q;have HZ:Hid (ZcP w S A (cS f t) (w3.setCell ⟨S,3,none⟩ (.int .i64 (nx+1)))):=by
  refine⟨⟨_,hSp4.sub hcl (by simp[cS]) ?_ ?_ rfl rfl,rfl⟩,hF3.trans (hF4.wide fun _ _ e=>.inl e)⟩
  ·show f.roots++[(f.next,(f.roots.getD t (0,0)).2)]=f.roots++[(nx,(rb:Int))]
   rw[HNX.out.1,HRB.out]
  ·show f.next+1=nx+1
   rw[HNX.out.1]
 clear hSp3 hSp4 hrw2 hbx2 hS1 hrts hw3 v3;go_wp2;refine bodyPost_ret (v:=.tuple #[.int .i64 nx,.int .i64 0]) (by simp[results,Tryz.f66,go_sem]) rfl ?_;exact⟨rfl,HZ.out⟩
