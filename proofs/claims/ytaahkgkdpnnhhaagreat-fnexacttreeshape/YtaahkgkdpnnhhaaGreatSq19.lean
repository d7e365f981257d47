import Derived.Test.YtaahkgkdpnnhhaaGreatSq14
set_option maxHeartbeats 9999999
set_option maxRecDepth 99999
set_option linter.all false
namespace Go.Proofs.YtaahkgkdpnnhhaaGreat
open Go.RowKit Fo
variable{rj:List (Int×Int)}{B1 B2 B3 S gr t:Nat}{A:SA}{NS RS cv gn n nv nx rv tv:Value}{w wr:World}{f g:fZ}
theorem sV(c:List Int):∀k,iP c k≤k
 | 0=>nR _
 | k+1=>by
  have:=sV c k
  unfold iP;split<;>omega
def woT(l:List (Int×Int))(i:Nat)(j:Nat):List (Int×Int):=if j≤i then l.take j else delE (l.take j) i
theorem aIG(l:List (Int×Int))(i j:Nat)(ai:j<l.length):woT l i (j+1)=if j=i then woT l i j else woT l i j++[l.getD j (0,0)]:=by
 have ht:=cC l j (0,0) ai;unfold woT;by_cases q:j=i
 ·subst q
  rw[if_pos rfl,if_neg (by omega),if_pos (nR _),ht];unfold delE;have FA:(l.take j).length=j:=by simp;omega
  rw[List.take_left' FA,List.drop_of_length_le (by simp;omega)];simp
 ·rw[if_neg q]
  by_cases q2:j<i
  ·rw[if_pos (by omega),if_pos (by omega),ht]
  ·rw[if_neg (by omega),if_neg (by omega),ht]
   unfold delE;rw[List.take_append_of_le_length (by simp;omega),List.drop_append_of_le_length (by simp;omega)];simp
theorem Sp.newRoots(h:Sp w S A f)(hg:IsC w gr (yT.row (g.roots++rj)) 77)(Kz:g.roots.length+rj.length≤maxLen)(hn:∀b d,g.nodes b=some d→f.nodes b=some d)(hl:g.cur.length=f.cur.length)(h1:g.next=f.next)(h2:g.gen=f.gen)(h3:g.com=f.com):
  Sp (w.setCell ⟨S,2,none⟩ (.slice (some ⟨gr,0,none⟩) g.roots.length (g.roots.length+rj.length))) S {A with gr:=gr,rj:=rj} g:=by
 have hF:Frm (fun k=>k=S) w (w.setCell ⟨S,2,none⟩ (.slice (some ⟨gr,0,none⟩) g.roots.length (g.roots.length+rj.length))):=Frm.set (S:=fun k=>k=S) w (p:=⟨S,2,none⟩) rfl _;refine⟨?_,(h.v.nds.frm hF (fun g cs k=>k.type_ne h.box (by decide)) (h.v.nds.arr.type_ne h.box (by decide))).sub hn,by show A.ns.length=_;rw[hl];exact h.v.ln,hg.frm hF (hg.type_ne h.box (by decide)),Kz,by rw[h3];exact h.v.com.frm hF fun g cs k=>k.type_ne h.box (by decide)⟩;have:=h.box.set 2 (.slice (some ⟨gr,0,none⟩) g.roots.length (g.roots.length+rj.length));have e:(aK A f).setIfInBounds 2 (.slice (some ⟨gr,0,none⟩) g.roots.length (g.roots.length+rj.length))=aK {A with gr:=gr,rj:=rj} g:=by
  unfold aK;rw[hl,h1,h2];rfl
 rw[e]at this;exact this
structure ZcP(w:World)(S:Nat)(A:SA)(g:fZ)(w':World):Prop where
 ex:∃A',Sp w' S A' g∧A'.tv=A.tv
 frm:Frm (fun k=>k=S∨k=A.ga∨k=A.gr) w w'
theorem aAZ(hf:CtS f)(hg:CtS g)(ht:t<f.roots.length)(h1:1<f.roots.length)(hr:g.roots=delE f.roots t)(hn:∀b d,g.nodes b=some d→f.nodes b=some d)(hl:g.cur.length=f.cur.length)(hx:g.next=f.next)(Me:g.gen=f.gen)(QY:g.com=f.com)(w:World)(S:Nat)(A:SA)(hS:Sp w S A f):
  Calls Tryz.prog 67 #[.pointer (some ⟨S,0,none⟩),.int .i64 t] w fun r w'=>r=.returned (.tuple #[.int .i64 ((fF f.nodes f.cur.length:Int) -(fF g.nodes f.cur.length:Int)),.int .i64 0])∧ZcP w S A g w':=by
 have h8:=hf.ic.n8;have h5:=hf.ic.n512;have Wx:=hf.r16;obtain⟨_,_,s2,_⟩:=hS.cells;have av:((f.roots.length:Int) == 1)=false:=by rw[beq_eq_false_iff_ne];omega
 have HC:=aA ((fS hf.ic hf.k hf.ent w S A hS (by omega)).mono (R':=fun r w1=>∃u,r=.returned u∧y64.Sl w1 u f.cur∧Bl w w1) fun r w1 hw=>by
  obtain⟨u,q1,q2,q3⟩:=hw;exact⟨u,q1,q2.sl,q3⟩)
 have O0:=aA (sW hf.ic);have Ug:=aA (sW hg.ic);have HS:=aA hS;have qv:g.roots.length=f.roots.length-1:=by rw[hr];exact bH _ _ ht
 have Ny:=aA (aI hr qv);have KV:=aA hl;clear hr qv hl;go_enter Tryz.func67,Tryz.ntmps67;go_wp2_with fail;refine HC.out.mono ?_;rintro r w1 ⟨u,rfl,hu,ao⟩;go_wp2_with fail;refine(pK u f.cur w1 hu h5 (by omega)).mono ?_;rintro r w1' ⟨rfl,NY⟩;rw[NY];have br:=HS.out.below ao;obtain⟨_,_,t2,_⟩:=br.cells;have UP:=aA ao;have lr:=aA br;obtain⟨pc,wh⟩:=eZ (iP f.cur f.cur.length);rw[wh];have SY:=aA wh;clear wh NY hu;go_wp2;go_loopw [7,8] (fun u i wr=>∃j:Nat,j≤f.roots.length∧i=.int .i64 j∧yT.Own w1.heap.size wr u (woT f.roots t j)∧Bl w1 wr) (fun _ i _=>f.roots.length -(intOf i).toNat)
 case atStart=>exact⟨0,by omega,rfl,Ely.Own.lit _ _ (nR _) _ (by omega),(bQ _ _).alloc (nR _) _⟩
 case round=>
  obtain⟨j,hj,rfl,ap,hb⟩:=hrel;have bd:=hb.size;have yx:=lr.out.below hb;obtain⟨_,_,t2',_⟩:=yx.cells;by_cases ai:j<f.roots.length
  ·obtain⟨x0,x1⟩:=yx.v.root ai
   have dq:(j:Int) <(f.roots.length:Int):=by omega
   have ah:(woT f.roots t j).length<1000000:=by
    unfold woT;split
    ·simp;omega
    ·rw[bH _ _ (by simp;omega)];simp;omega
   have HW:=aA (aIG f.roots t j ai);have HE:Hid (f.roots.getD j (0,0)=((f.roots.getD j (0,0)).1,(f.roots.getD j (0,0)).2)):=rfl;rw[HE.out]at HW;generalize (f.roots.getD j (0,0)).1=xa at *;generalize (f.roots.getD j (0,0)).2=xb at *;generalize woT f.roots t j=pre at *;clear yx HE;by_cases q:j=t
   ·have q':((j:Int) ==(t:Int))=true:=by simp[q]
    rw[if_pos q]at HW;clear q;go_wp2;go_roundw
    case rel=>exact⟨j+1,by omega,by go_num,by rw[HW.out];exact ap,hb⟩
    case measure=>simp[intOf];omega
   ·have q':((j:Int) ==(t:Int))=false:=by rw[beq_eq_false_iff_ne];omega
    rw[if_neg q]at HW;clear q;go_wp2_with (first | (at_builtin;refine yT.wpApp1 rfl _ _ rfl ap rfl (xa,xb) rfl rfl ah bd ?_;intro u' w5 k1 k2 k3) | go_in);rw[←HW.out]at k1;go_roundw
    case rel=>exact⟨j+1,by omega,by go_num,k1,hb.trans k2⟩
    case measure=>simp[intOf];omega
  ·obtain rfl:j=f.roots.length:=by omega
   have e1:woT f.roots t f.roots.length=g.roots:=by unfold woT;rw[if_neg (by omega),Ny.out.1];simp
   rw[e1]at ap;obtain⟨ag,rj,rfl,fi,lk⟩:=ap;have E6:0<g.roots.length:=by rw[Ny.out.2];omega
   obtain⟨gr,rfl⟩:∃gr,ag=some gr:=by
    cases ag with
    | none=>have:=(fi.nil rfl).1;rw[this]at E6;simp at E6
    | some x=>exact⟨x,rfl⟩
   simp only[adr,Option.map_some];have ax:=yx.newRoots (g:=g) (fi.arr gr rfl) fi.small hn KV.out hx Me QY;obtain⟨w3,dh⟩:=eZ (wr.setCell ⟨S,2,none⟩ (.slice (some ⟨gr,0,none⟩) g.roots.length (g.roots.length+rj.length)));rw[dh]at ax;have z2:=yx.box.frozen 2;have bu:Frm (fun k=>k=S) wr w3:=by rw[←dh];exact Frm.set (S:=fun k=>k=S) wr (p:=⟨S,2,none⟩) rfl _
   have CB:=aA ((fS hg.ic hg.k hg.ent w3 S _ ax (by have:=hg.r16;omega)).mono (R':=fun r w1=>∃u,r=.returned u∧y64.Sl w1 u g.cur∧Bl w3 w1) fun r w1 hw=>by
    obtain⟨u,q1,q2,q3⟩:=hw;exact⟨u,q1,q2.sl,q3⟩)
   have pu:=aA ax;have Ga:Hid (Frm (fun k=>k=S∨k=A.ga∨k=A.gr) w w3):=((Frm.of_below UP.out).trans ((Frm.of_below hb).wide (S:=fun _=>False) fun _ _ e=>e.elim)).trans (bu.wide fun _ _ e=>.inl e);clear ax fi lk yx bu;go_wp2_with fail;refine CB.out.mono ?_;rintro r w4 ⟨u,rfl,hu,jq⟩;go_wp2_with fail;refine(pK u g.cur w4 hu (by rw[KV.out];exact h5) (by rw[KV.out];omega)).mono ?_;rintro r w4' ⟨rfl,NZ⟩;rw[NZ];obtain⟨pg,Kt⟩:=eZ (iP g.cur g.cur.length);rw[Kt];have Vo:pc≤512∧pg≤512:=by
    have e1:=sV f.cur f.cur.length;have e2:=sV g.cur g.cur.length;rw[SY.out]at e1;rw[Kt,KV.out]at e2;omega
   have Xc:IntKind.i64.wrap ((pc:Int) -(pg:Int))=(pc:Int) -(pg:Int):=IntWalk.i64_in _ ⟨by omega,by omega⟩;have HZ:Hid (ZcP w S A g w4):=⟨⟨_,pu.out.below jq,rfl⟩,Ga.out.trans (Frm.of_below jq)⟩;have HE:Hid ((fF f.nodes f.cur.length:Int) -(fF g.nodes f.cur.length:Int)=(pc:Int) -(pg:Int)):=by
    show _=_
    rw[←O0.out,SY.out,←KV.out,←Ug.out,Kt]
   clear hu NZ Kt;go_wp2;refine bodyPost_ret (v:=.tuple #[.int .i64 ((pc:Int) -(pg:Int)),.int .i64 0]) (by simp[results,Tryz.f67,go_sem]) rfl ?_;exact⟨by rw[HE.out],HZ.out⟩
theorem Ely.appendK{α:Type}(Y:Ely α)(a:Option Nat)(es junk vs:List α)(v:Value)(W:World)(ha:Y.Rw W a es junk)(hv:Y.Sl W v vs)(Ah:es.length+vs.length≤1000000):
  ∃u W' a' junk',(∀ty,(Builtin.append_ #[Y.s,Y.s] ty #[.slice (adr a) es.length (es.length+junk.length),v]).run Tryz.prog W=.ok u W')∧u=.slice (adr a') (es.length+vs.length) (es.length+vs.length+junk'.length)∧
   Y.Rw W' a' (es++vs) junk'∧(∀g,a'=some g→a=some g∨W.heap.size≤g)∧Frm (fun k=>a=some k) W W'∧(a'=a∨Frm (fun _=>False) W W'):=by
 obtain⟨i0,hi,h3,Ai,hz⟩:=Y.info;have hm:=ha.small;have dz:Src Tryz.prog i0.size Y.s v vs.length (vs.flatMap Y.cell) W:=by
  rcases hv with⟨rfl,rfl⟩ | ⟨gv,o,cap,xs,rfl,hx,hl,he⟩
  ·exact Src.ofNil W Y.us 0
  ·exact Src.ofSlice W Y.us ⟨gv,o*Y.n,none⟩ vs.length cap _ (by rw[Y.len,h3]) (Ely.Sl.cells hx hl he) (Y.oneL vs)
 by_cases jt:vs.length≤junk.length
 ·cases a with
  | none=>
   obtain⟨rfl,rfl⟩:=ha.nil rfl;have GQ:vs=[]:=List.length_eq_zero_iff.1 (by simpa using jt);subst GQ;refine⟨_,W,none,[],fun ty=>?_,rfl,⟨fun g q=>(by cases q),fun _=>⟨rfl,rfl⟩,by simp⟩,fun g q=>(by cases q),Frm.refl _ _,.inl rfl⟩;have:=run_append_nothing (P:=Tryz.prog) W Y.s Y.s ty Y.t i0 Y.us hi none 0 0 (nR _) v dz;exact this
  | some g=>
   have hg:=ha.arr g rfl;refine⟨_,_,some g,junk.drop vs.length,fun ty=>run_append_room_src (P:=Tryz.prog) W Y.s Y.s ty Y.t i0 Y.us hi g 0 es.length (es.length+junk.length) v _ _ dz (by omega)
    (fun k hk=>by
     rw[Y.len]at hk;have:(es.length+vs.length)*Y.n≤(es.length+junk.length)*Y.n:=Nat.mul_le_mul_right _ (by omega);rw[Nat.add_mul,Nat.add_mul]at this;rw[hg.cell,h3,Array.getElem?_eq_getElem (by rw[Y.size,lP,Nat.add_mul];omega)];rfl) (fun k hk=>hg.frozen _),?_,⟨fun g' q=>?_,fun q=>(by cases q),?_⟩,fun g' q=>.inl q,?_,.inl rfl⟩
   ·simp[adr];omega
   ·cases q
    have:=IsC.sets (vs.flatMap Y.cell) (cs:=(es++junk).flatMap Y.cell) (es.length*Y.n) hg (by
     rw[Y.len,Y.len,lP,←Nat.add_mul];exact Nat.mul_le_mul_right _ (by omega))
    rw[Y.spl]at this;have e1:Go.Proofs.YtaahkgkdpnnhhaaGreat.spl (es++junk) es.length vs=es++vs++junk.drop vs.length:=by
     unfold Go.Proofs.YtaahkgkdpnnhhaaGreat.spl;rw[List.take_left,←List.drop_drop,List.drop_left]
    rw[e1]at this;rw[h3,Nat.zero_add];exact this
   ·simp;omega
   ·exact Frm.sets (S:=fun k=>some g=some k) _ rfl _ _
 ·have sq:(Builtin.firstCells i0.size es.length (.slice (adr a) es.length (es.length+junk.length))).run Tryz.prog W.drew=.ok (es.flatMap Y.cell).toArray W.drew:=by
   cases a with
   | none=>
    obtain⟨rfl,rfl⟩:=ha.nil rfl;exact run_firstCells_none (P:=Tryz.prog) W.drew i0.size 0 0 0
   | some g=>
    have hg:=ha.arr g rfl;exact run_firstCells_some (P:=Tryz.prog) W.drew i0.size es.length ⟨g,0,none⟩ es.length _ (es.flatMap Y.cell) (by rw[Y.len,h3]) (by
     have:=Ely.Sl.cells (Y:=Y) (w:=W.drew) (g:=g) (o:=0) (xs:=es++junk) (es:=es) hg.drew (by rw[lP];omega) (by simp)
     rw[Nat.zero_mul]at this;exact this)
  have hr:=fun ty=>run_append_grow_src (P:=Tryz.prog) W Y.s Y.s ty Y.t i0 _ Y.us hi hz (adr a) es.length (es.length+junk.length) (es.flatMap Y.cell) sq v vs.length (vs.flatMap Y.cell) dz (by omega) (by omega) (by rw[Ai];exact Y.nsc (by omega) (by omega));have xr:=grownCap_ge W (es.length+vs.length) (es.length+junk.length) Y.t;have ph:=grownCap_le_maxLen W (es.length+vs.length) (es.length+junk.length) Y.t (by simp[maxLen];omega);generalize grownCap W (es.length+vs.length) (es.length+junk.length) Y.t=gc at *;refine⟨_,_,some W.heap.size,List.replicate (gc -(es.length+vs.length)) Y.z,hr,?_,⟨fun g q=>?_,fun q=>(by cases q),?_⟩,fun g q=>(by cases q;exact .inr (nR _)),?_,.inr ((Frm.drew _ W).trans (Frm.alloc _ _ _))⟩
  ·simp[adr];omega
  ·cases q
   have:=IsC.new W.drew ((es.flatMap Y.cell++vs.flatMap Y.cell).toArray++Builtin.zeroCells Y.zv.cells (gc -(es.length+vs.length))) Y.t
   have e:Y.row (es++vs++List.replicate (gc -(es.length+vs.length)) Y.z)=(es.flatMap Y.cell++vs.flatMap Y.cell).toArray++Builtin.zeroCells Y.zv.cells (gc -(es.length+vs.length)):=by
    rw[Y.zeroL];simp[Ely.row]
   rw[e];exact this
  ·simp;omega
  ·exact(Frm.drew _ W).trans (Frm.alloc _ _ _)
theorem lH{P:Program}{o:Oper}{a:Act}{K:Act→World→Prop}{Q:Exit→Act→World→Prop}(s x:Operand)(t tn:TypeId)
  (ho:o.op=.call {callee:=.builtin .append,args:=#[s,x],argTypes:=#[t,tn]}) (tt:Nat) (hd:o.dst=some tt) (vs vx:Value) (hs:a.eval s=vs) (hx:a.eval x=vx)
  (v':Value) (w':World) (hr:(Builtin.append_ #[t,tn] o.type #[vs,vx]).run P w=.ok v' w') (h:K (a.put (some tt) v') w'):Oper.wp P o a w K Q:=
 pX s x t tn ho vs vx hs hx v' w' hr (by rw[hd];exact h)
theorem Sp.layRoots(bo:IsC w S (aK A f) 57)(F8:iZ w A.ga A.ns A.nj f.nodes)(Mq:A.ns.length=f.cur.length)(Cv:y64.Sl w A.cv f.com)(hg:IsC w gr (yT.row (g.roots++rj)) 77)(Kz:g.roots.length+rj.length≤maxLen)(hn:∀b d,g.nodes b=some d→f.nodes b=some d)(hl:g.cur.length=f.cur.length)(h1:g.next=f.next)(h2:g.gen=f.gen)(h3:g.com=f.com):
  Sp (w.setCell ⟨S,2,none⟩ (.slice (some ⟨gr,0,none⟩) g.roots.length (g.roots.length+rj.length))) S {A with gr:=gr,rj:=rj} g:=by
 have hF:Frm (fun k=>k=S) w (w.setCell ⟨S,2,none⟩ (.slice (some ⟨gr,0,none⟩) g.roots.length (g.roots.length+rj.length))):=Frm.set (S:=fun k=>k=S) w (p:=⟨S,2,none⟩) rfl _;refine⟨?_,(F8.frm hF (fun g cs k=>k.type_ne bo (by decide)) (F8.arr.type_ne bo (by decide))).sub hn,by show A.ns.length=_;rw[hl];exact Mq,hg.frm hF (hg.type_ne bo (by decide)),Kz,by rw[h3];exact Cv.frm hF fun g cs k=>k.type_ne bo (by decide)⟩;have:=bo.set 2 (.slice (some ⟨gr,0,none⟩) g.roots.length (g.roots.length+rj.length));have e:(aK A f).setIfInBounds 2 (.slice (some ⟨gr,0,none⟩) g.roots.length (g.roots.length+rj.length))=aK {A with gr:=gr,rj:=rj} g:=by
  unfold aK;rw[hl,h1,h2];rfl
 rw[e]at this;exact this
theorem Sp.setNext(h:Sp w S A f)(v:Int):Sp (w.setCell ⟨S,3,none⟩ (.int .i64 v)) S A {f with next:=v}∧Frm (fun k=>k=S) w (w.setCell ⟨S,3,none⟩ (.int .i64 v)):=by
 have hF:Frm (fun k=>k=S) w (w.setCell ⟨S,3,none⟩ (.int .i64 v)):=Frm.set (S:=fun k=>k=S) w (p:=⟨S,3,none⟩) rfl _;refine⟨⟨?_,h.v.nds.frm hF (fun g cs k=>k.type_ne h.box (by decide)) (h.v.nds.arr.type_ne h.box (by decide)),h.v.ln,h.v.rts.frm hF (h.v.rts.type_ne h.box (by decide)),h.v.rs,h.v.com.frm hF fun g cs k=>k.type_ne h.box (by decide)⟩,hF⟩;exact h.box.set 3 (.int .i64 v)
theorem yV(hI:IC f)(ht:t<f.roots.length)(ju:f.roots.length<16)(hn:0≤f.next∧f.next<65535)(w:World)(S:Nat)(A:SA)(hS:Sp w S A f):
  Calls Tryz.prog 66 #[.pointer (some ⟨S,0,none⟩),.int .i64 t] w fun r w'=>r=.returned (.tuple #[.int .i64 f.next,.int .i64 0])∧ZcP w S A (cU f t) w':=by
 obtain⟨_,_,s2,s3,_⟩:=hS.cells;obtain⟨_,r1⟩:=hS.v.root ht;have h0:0≤(f.roots.getD t (0,0)).2:=(hI.rb _ (aO ht)).1;have fk:(f.roots.getD t (0,0)).2=(aB f t:Int):=by unfold aB;omega
 rw[fk]at r1;have Rv:(t:Int) <(f.roots.length:Int):=by omega
 have Lb:¬((16:Int)≤(f.roots.length:Int)):=by omega
 have RT:¬((65535:Int)≤f.next):=by omega
 have R1:IntKind.i64.wrap (f.next+1)=f.next+1:=IntWalk.i64_in _ ⟨by omega,by omega⟩;have Nx:=aA fk;have Gm:=aFT;obtain⟨rb,KG⟩:=eZ (aB f t);obtain⟨nx,i5⟩:=eZ (f.next);rw[KG]at r1 Nx;have wt:=aA (aI i5 KG);rw[i5]at s3 RT R1;rw[i5];have HS:=aA hS;clear fk h0 KG i5;go_enter Tryz.func66,Tryz.ntmps66;go_wp2;have ak:w.drew.cell? ⟨S,2,none⟩=some (.slice (some ⟨A.gr,0,none⟩) f.roots.length (f.roots.length+A.rj.length))∧w.drew.cell? ⟨A.gr,t*2+1,none⟩=some (.int .i64 (rb:Int)):=⟨s2,r1⟩;refine aZ (fun W=>W.cell? ⟨S,2,none⟩=some (.slice (some ⟨A.gr,0,none⟩) f.roots.length (f.roots.length+A.rj.length))∧W.cell? ⟨A.gr,t*2+1,none⟩=some (.int .i64 (rb:Int))) 19 (by kernel_rfl) ?_;refine tJ 0 24 (.pointer (some ⟨S,0,none⟩)) rfl ak ?_;simp only[Act.put,sB,sZ,sS];refine tJ 1 25 (.pointer (some ⟨S,0,none⟩)) rfl ak ?_;simp only[Act.put,sB,sZ,sS];refine tJ 2 26 (.pointer (some ⟨S,0,none⟩)) rfl ak ?_;simp only[Act.put,sB,sZ,sS];refine tJ 3 27 (.pointer (some ⟨S,2,none⟩)) rfl ak ?_;simp only[Act.put,sB,sZ,sS];refine tJ 4 28 (.slice (some ⟨A.gr,0,none⟩) f.roots.length (f.roots.length+A.rj.length)) rfl ak ?_;simp only[Act.put,sB,sZ,sS];refine tJ 5 29 (.int .i64 nx) rfl ak ?_;simp only[Act.put,sB,sZ,sS];refine tJ 6 30 (.pointer (some ⟨S,0,none⟩)) rfl ak ?_;simp only[Act.put,sB,sZ,sS];refine tJ 7 31 (.pointer (some ⟨S,0,none⟩)) rfl ak ?_;simp only[Act.put,sB,sZ,sS];refine tJ 8 32 (.pointer (some ⟨S,2,none⟩)) rfl ak ?_;simp only[Act.put,sB,sZ,sS];refine tJ 9 33 (.slice (some ⟨A.gr,0,none⟩) f.roots.length (f.roots.length+A.rj.length)) rfl ak ?_;simp only[Act.put,sB,sZ,sS];refine tJ 10 34 (.int .i64 t) rfl ak ?_;simp only[Act.put,sB,sZ,sS];refine tJ 11 35 (.pointer (some ⟨A.gr,t*2,none⟩)) rfl ak ?_;simp only[Act.put,sB,sZ,sS];refine tJ 12 36 (.pointer (some ⟨A.gr,t*2+1,none⟩)) rfl ak ?_;simp only[Act.put,sB,sZ,sS];refine tJ 13 37 (.int .i64 (rb:Int)) rfl ak ?_;simp only[Act.put,sB,sZ,sS];refine tJ 14 38 (.agg #[.int .i64 nx,.int .i64 (rb:Int)]) rfl ak ?_;simp only[Act.put,sB,sZ,sS];refine oE 15 rfl fun K2 ae=>?_;go_simp;obtain⟨G,HG⟩:=exH (w.heap.size);obtain⟨W1,DX⟩:=exH ((w.alloc (.cells #[.int .i64 nx,.int .i64 (rb:Int)] 77)).drew);rw[←DX.out,←HG.out];have d9:Bl w W1:=by rw[DX.out];exact((bQ _ w).alloc (nR _) _).drew
 have ke:yT.Sl W1 (.slice (some ⟨G,0,none⟩) 1 1) [(nx,(rb:Int))]:=by
  rw[DX.out,HG.out];exact(Ely.Sl.new (Y:=yT) w (nx,(rb:Int)) rfl).below (bQ _ _).drew
 have br:=HS.out.below d9;have qt:W1.cell? ⟨S,2,none⟩=some (.slice (some ⟨A.gr,0,none⟩) f.roots.length (f.roots.length+A.rj.length))∧W1.cell? ⟨A.gr,t*2+1,none⟩=some (.int .i64 (rb:Int)):=⟨br.cells.2.2.1,by rw[(br.v.root ht).2,Nx.out]⟩;have fi:yT.Rw W1 (some A.gr) f.roots A.rj:=⟨fun g e=>(by cases e;exact br.v.rts),fun e=>(by cases e),br.v.rs⟩;obtain⟨u,W2,a2,rj2,q9,hu,ro,lw,du,RX⟩:=yT.appendK (some A.gr) f.roots A.rj [(nx,(rb:Int))] _ W1 fi ke (by simp;omega);obtain⟨gr2,rfl⟩:∃g,a2=some g:=by
  cases a2 with
  | none=>have:=(ro.nil rfl).1;simp at this
  | some g=>exact⟨g,rfl⟩
 have P3:S≠A.gr:=br.box.type_ne br.v.rts (by decide);have FX:Frm (fun k=>k=A.gr) W1 W2:=du.wide fun k _ e=>by simp only[sJ]at e;exact e.symm
 have eu:IsC W2 S (aK A f) 57:=br.box.frm FX P3;have c2:W2.cell? ⟨S,2,none⟩=some (.slice (some ⟨A.gr,0,none⟩) f.roots.length (f.roots.length+A.rj.length)):=eu.c rfl;have z2:=eu.frozen 2;refine ae _ _ (fun _=>qt) ?_;clear ae K2 ak;refine oE 16 rfl fun K2 ae=>?_;refine lH _ _ _ _ rfl 40 rfl _ _ rfl rfl u W2 (q9 _) ?_;simp only[Act.put,sB,sZ,sS];have QR:W2.cell? ⟨A.gr,t*2+1,none⟩=some (.int .i64 (rb:Int)):=by
  rcases RX with e | e
  ·cases e
   rw[(ro.arr A.gr rfl).cell];have:=yT.at (f.roots++[(nx,(rb:Int))]++rj2) (i:=t) (j:=1) (by simp;omega) (by decide);have e2:(f.roots++[(nx,(rb:Int))]++rj2).getD t yT.z=f.roots.getD t (0,0):=by rw[cX,if_pos (by simp;omega),cX,if_pos ht];rfl
   rw[e2]at this;refine(show(yT.row (f.roots++[(nx,(rb:Int))]++rj2))[t*2+1]?=_ from this).trans ?_;show some (Value.int .i64 (f.roots.getD t (0,0)).2)=_
   rw[Nx.out]
  ·have:=br.v.rts.frm e id
   rw[this.cell,←br.v.rts.cell];exact qt.2
 have gp:W2.cell? ⟨S,2,none⟩=some (.slice (some ⟨A.gr,0,none⟩) f.roots.length (f.roots.length+A.rj.length))∧W2.cell? ⟨A.gr,t*2+1,none⟩=some (.int .i64 (rb:Int)):=⟨c2,QR⟩;have CY:u=.slice (some ⟨gr2,0,none⟩) (f.roots.length+1) (f.roots.length+1+rj2.length):=hu;subst CY;refine ae _ _ (fun _=>gp) ?_;clear ae K2 qt hu q9;refine oE 17 rfl fun K2 ae=>?_;go_simp;refine ae _ _ (fun _=>gp) ?_;clear ae K2;refine oE 18 rfl fun K2 ae=>?_;go_simp;refine ae _ _ (fun _=>gp) ?_;clear ae K2;refine oE 19 rfl fun K2 ae=>?_;go_simp;refine ae _ _ (fun q=>absurd rfl q) ?_;clear ae K2;refine aS (by kernel_rfl) ?_ _;have GH:=br.v.rts;have Co:=Sp.layRoots (g:={f with roots:=f.roots++[(nx,(rb:Int))]}) eu (br.v.nds.frm FX (fun g cs k=>k.type_ne GH (by decide)) (br.v.nds.arr.type_ne GH (by decide))) br.v.ln (br.v.com.frm FX fun g cs k=>k.type_ne GH (by decide)) (ro.arr gr2 rfl) ro.small (fun _ _ q=>q) rfl rfl rfl rfl;have ph:(f.roots++[(nx,(rb:Int))]).length=f.roots.length+1:=by simp
 simp only[ph]at Co;obtain⟨w3,dh⟩:=eZ (W2.setCell ⟨S,2,none⟩ (.slice (some ⟨gr2,0,none⟩) (f.roots.length+1) (f.roots.length+1+rj2.length)));rw[dh]at Co;rw[dh];have bu:Frm (fun k=>k=S∨k=A.ga∨k=A.gr) w w3:=((Frm.of_below d9).trans (FX.wide fun _ _ e=>.inr (.inr e))).trans (by rw[←dh];exact(Frm.set (S:=fun k=>k=S) W2 (p:=⟨S,2,none⟩) rfl _).wide fun _ _ e=>.inl e);obtain⟨_,_,_,v3,_⟩:=Co.cells;have v3':w3.cell? ⟨S,3,none⟩=some (.int .i64 nx):=by rw[←wt.out.1];exact v3
 have z3:=Co.box.frozen 3;obtain⟨Cp,jm⟩:=Co.setNext (nx+1);have au:∀b d,(cU f t).nodes b=some d→f.nodes b=some d:=fun _ _ q=>q;have HZ:Hid (ZcP w S A (cU f t) (w3.setCell ⟨S,3,none⟩ (.int .i64 (nx+1)))):=by
  refine⟨⟨_,Cp.sub au (by simp[cU]) ?_ ?_ rfl rfl,rfl⟩,bu.trans (jm.wide fun _ _ e=>.inl e)⟩
  ·show f.roots++[(f.next,(f.roots.getD t (0,0)).2)]=f.roots++[(nx,(rb:Int))]
   rw[wt.out.1,Nx.out]
  ·show f.next+1=nx+1
   rw[wt.out.1]
 clear Co Cp ro eu br GH dh v3;go_wp2;refine bodyPost_ret (v:=.tuple #[.int .i64 nx,.int .i64 0]) (by simp[results,Tryz.f66,go_sem]) rfl ?_;exact⟨rfl,HZ.out⟩
def stV(A:SA)(f:fZ):Value:=.agg (aK A f)
structure Cpy(w:World)(n NS RS nx gn cv tv:Value)(B1 B2 B3:Nat)(nv rv:Value)(wr:World):Prop where
 b1:IsC wr B1 #[n,NS,RS,nx,gn,cv,tv] 57
 b2:IsC wr B2 #[.int .i64 0,.slice none 0 0,.slice none 0 0,.int .i64 0,.int .i64 0,.slice none 0 0,.slice none 0 0] 57
 b3:IsC wr B3 #[n,nv,rv,nx,gn,cv,tv] 57
 bel:Bl w wr
 n12:B1≠B3∧B2≠B3∧w.heap.size≤B3
 lo2:w.heap.size≤B2
structure CpR{α:Type}(Y:Ely α)(w:World)(n NS RS nx gn cv tv:Value)(B1 B2 B3:Nat)(fst:Bool)(ov:Value)(l:List α)(j:Nat)(wr:World):Prop where
 ex:∃ag jk,Cpy w n NS RS nx gn cv tv B1 B2 B3 (if fst then .slice (adr ag) j (j+jk.length)else ov) (if fst then ov else .slice (adr ag) j (j+jk.length)) wr∧Y.Rw wr ag (l.take j) jk∧∀g,ag=some g→w.heap.size≤g
theorem Cpy.frm{w':World}{S:Nat→Prop}(h:Cpy w n NS RS nx gn cv tv B1 B2 B3 nv rv wr)(k:Frm S wr w')(hS:∀g,S g→w.heap.size≤g∧g≠B1∧g≠B2∧g≠B3):Cpy w n NS RS nx gn cv tv B1 B2 B3 nv rv w':=
 ⟨h.b1.frm k fun q=>(hS _ q).2.1 rfl,h.b2.frm k fun q=>(hS _ q).2.2.1 rfl,h.b3.frm k fun q=>(hS _ q).2.2.2 rfl,h.bel.trans (k.below h.bel.size fun g q=>(hS g q).1),h.n12,h.lo2⟩
theorem Cpy.set1(h:Cpy w n NS RS nx gn cv tv B1 B2 B3 nv rv wr)(v:Value):Cpy w n NS RS nx gn cv tv B1 B2 B3 v rv (wr.setCell ⟨B3,1,none⟩ v):=
 ⟨h.b1.set_ne v h.n12.1,h.b2.set_ne v h.n12.2.1,h.b3.set 1 v,h.bel.trans ((bQ _ wr).setCell (p:=⟨B3,1,none⟩) h.n12.2.2 v),h.n12,h.lo2⟩
theorem Cpy.set2'(h:Cpy w n NS RS nx gn cv tv B1 B2 B3 nv rv wr)(v:Value):Cpy w n NS RS nx gn cv tv B1 B2 B3 nv v (wr.setCell ⟨B3,2,none⟩ v):=
 ⟨h.b1.set_ne v h.n12.1,h.b2.set_ne v h.n12.2.1,h.b3.set 2 v,h.bel.trans ((bQ _ wr).setCell (p:=⟨B3,2,none⟩) h.n12.2.2 v),h.n12,h.lo2⟩
theorem mL(w:World)(A:SA)(hS:SpV w A f)(h8:0<f.cur.length)(h5:f.cur.length≤512)(h1:0<f.roots.length)(ju:f.roots.length≤100)(jf:∃a n c,A.tv=.slice a n c):
  Calls Tryz.prog 65 #[stV A f] w fun r w'=>∃A',r=.returned (stV A' f)∧SpV w' A' f∧A'.tv=A.tv∧w.heap.size≤A'.ga∧w.heap.size≤A'.gr∧Bl w w':=by
 have Ns:=aA hS.ln;obtain⟨B1,d9⟩:=eZ (w.heap.size);obtain⟨ta,tn,tc,jf⟩:=jf;obtain⟨ma,mc,sf⟩:=hS.com.len;have O7:Hid (∀(r:Ending) (w':World) (A':SA),r=.returned (stV A' f)→SpV w' A' f→A'.tv=A.tv→w.heap.size≤A'.ga→w.heap.size≤A'.gr→Bl w w'→∃A',r=.returned (stV A' f)∧SpV w' A' f∧A'.tv=A.tv∧w.heap.size≤A'.ga∧w.heap.size≤A'.gr∧Bl w w'):=fun r w' A' a b c d e g=>⟨A',a,b,c,d,e,g⟩;obtain⟨PS,hPS⟩:∃PS:Ending→World→Prop,PS=fun r w'=>∃A',r=.returned (stV A' f)∧SpV w' A' f∧A'.tv=A.tv∧w.heap.size≤A'.ga∧w.heap.size≤A'.gr∧Bl w w':=⟨_,rfl⟩;rw[←hPS];have O6:=aA hPS;clear hPS;have qk:stV A f=.agg #[.int .i64 f.cur.length,.slice (some ⟨A.ga,0,none⟩) A.ns.length (A.ns.length+A.nj.length),.slice (some ⟨A.gr,0,none⟩) f.roots.length (f.roots.length+A.rj.length),.int .i64 f.next,.int .i64 f.gen,.slice ma f.com.length mc,.slice ta tn tc]:=by unfold stV aK;rw[sf,jf]
 rw[qk];have KU:=aA (aI sf (aI jf qk));clear sf jf qk;obtain⟨w1,be⟩:=eZ (w.alloc (.cells #[.int .i64 f.cur.length,.slice (some ⟨A.ga,0,none⟩) A.ns.length (A.ns.length+A.nj.length),.slice (some ⟨A.gr,0,none⟩) f.roots.length (f.roots.length+A.rj.length),.int .i64 f.next,.int .i64 f.gen,.slice ma f.com.length mc,.slice ta tn tc] 57));obtain⟨B2,cx⟩:=eZ (w1.heap.size);obtain⟨w2,bw⟩:=eZ (w1.alloc (.cells #[.int .i64 0,.slice none 0 0,.slice none 0 0,.int .i64 0,.int .i64 0,.slice none 0 0,.slice none 0 0] 57));obtain⟨B3,fj⟩:=eZ (w2.heap.size);obtain⟨w3,dh⟩:=eZ (w2.alloc (.cells #[.int .i64 f.cur.length,.slice none 0 0,.slice (some ⟨A.gr,0,none⟩) f.roots.length (f.roots.length+A.rj.length),.int .i64 f.next,.int .i64 f.gen,.slice ma f.com.length mc,.slice ta tn tc] 57));have e1:=bAl be;have e2:=bAl bw;have e3:=bAl dh;have c1:=iNw be d9;have c2:=iNw bw cx;have c3:=iNw dh fj;have c12:=c1.of (e2.block _ c1.lt);have q0:w2.cell? ⟨B1,0,none⟩=some (.int .i64 f.cur.length):=c12.c rfl;have q1:w2.cell? ⟨B1,1,none⟩=some (.slice (some ⟨A.ga,0,none⟩) A.ns.length (A.ns.length+A.nj.length)):=c12.c rfl;have q2:w2.cell? ⟨B1,2,none⟩=some (.slice (some ⟨A.gr,0,none⟩) f.roots.length (f.roots.length+A.rj.length)):=c12.c rfl;have q3:w2.cell? ⟨B1,3,none⟩=some (.int .i64 f.next):=c12.c rfl;have q4:w2.cell? ⟨B1,4,none⟩=some (.int .i64 f.gen):=c12.c rfl;have q5:w2.cell? ⟨B1,5,none⟩=some (.slice ma f.com.length mc):=c12.c rfl;have q6:w2.cell? ⟨B1,6,none⟩=some (.slice ta tn tc):=c12.c rfl;have Sx:Cpy w (.int .i64 f.cur.length) (.slice (some ⟨A.ga,0,none⟩) A.ns.length (A.ns.length+A.nj.length)) (.slice (some ⟨A.gr,0,none⟩) f.roots.length (f.roots.length+A.rj.length)) (.int .i64 f.next) (.int .i64 f.gen) (.slice ma f.com.length mc) (.slice ta tn tc) B1 B2 B3 (.slice none 0 0) (.slice (some ⟨A.gr,0,none⟩) f.roots.length (f.roots.length+A.rj.length)) w3:=
  ⟨(c1.of (e2.block _ c1.lt)).of (e3.block _ (lL c1.lt e2.size)),c2.of (e3.block _ c2.lt),c3,e1.trans ((e2.trans (e3.mono e2.size)).mono e1.size),by have:=c1.lt;have:=c2.lt;have:=e1.size;have:=e2.size;omega,by have:=e1.size;omega⟩
 have SO:=aA Sx;have KZ:=aA fun(w':World) (hb:Bl w w')=>hS.below hb;have Ql:=hS.nds.arr.lt;have Qr:=hS.rts.lt;clear e1 e2 e3 c1 c2 c3 c12 Sx hS;go_enter Tryz.func65,Tryz.ntmps65;go_wp2;go_loopw [4] (fun i wr=>∃j:Nat,j≤A.ns.length∧i=.int .i64 j∧CpR yN w (.int .i64 f.cur.length) (.slice (some ⟨A.ga,0,none⟩) A.ns.length (A.ns.length+A.nj.length)) (.slice (some ⟨A.gr,0,none⟩) f.roots.length (f.roots.length+A.rj.length)) (.int .i64 f.next) (.int .i64 f.gen) (.slice ma f.com.length mc) (.slice ta tn tc) B1 B2 B3 true (.slice (some ⟨A.gr,0,none⟩) f.roots.length (f.roots.length+A.rj.length)) A.ns j wr) (fun i _=>A.ns.length -(intOf i).toNat)
 case atStart=>exact⟨0,by omega,rfl,⟨none,[],SO.out,⟨fun g e=>(by cases e),fun _=>⟨by simp,rfl⟩,by simp⟩,fun g e=>(by cases e)⟩⟩
 case round=>
  clear SO be bw dh;obtain⟨j,hj,rfl,⟨ag,jk,hC,fi,lk⟩⟩:=hrel;simp only[if_true]at hC;have m1:wr.cell? ⟨B1,1,none⟩=some (.slice (some ⟨A.ga,0,none⟩) A.ns.length (A.ns.length+A.nj.length)):=by rw[hC.b1.cell];rfl
  have m2:wr.cell? ⟨B3,1,none⟩=some (.slice (adr ag) j (j+jk.length)):=by rw[hC.b3.cell];rfl
  have yx:=KZ.out wr hC.bel;by_cases ai:j<A.ns.length
  ·have Jl:(j:Int) <(A.ns.length:Int):=by omega
   have YF:j<600:=by have:=Ns.out;omega
   have aa:∀(W:World),W.heap[A.ga]?=wr.heap[A.ga]?→W.cell? ⟨A.ga,j*2,none⟩=some (.int .i64 (A.ns.getD j nv0).1)∧W.cell? ⟨A.ga,j*2+1,none⟩=some (.slice (A.ns.getD j nv0).2.1 (A.ns.getD j nv0).2.2.1 (A.ns.getD j nv0).2.2.2):=fun W he=>by
    have hx:∀i,i<2→W.cell? ⟨A.ga,j*2+i,none⟩=(aCE (A.ns.getD j nv0))[i]?:=fun i hi=>by
     have h0:W.cell? ⟨A.ga,j*2+i,none⟩=wr.cell? ⟨A.ga,j*2+i,none⟩:=by simp[World.cell?,he]
     rw[h0,yx.nds.arr.cell];have:=yN.at (A.ns++A.nj) (i:=j) (j:=i) (by simp;omega) hi;have e2:(A.ns++A.nj).getD j yN.z=A.ns.getD j nv0:=by rw[cX,if_pos ai];rfl
     rw[e2]at this;exact this
    exact⟨hx 0 (by omega),hx 1 (by omega)⟩
   have LY:=aA (cC A.ns j nv0 ai);have AP:(A.ns.take j).length=j:=by simp;omega
   obtain⟨m3,m4⟩:=aa wr rfl;obtain⟨⟨x1,x2,x3,x4⟩,Hn⟩:∃x,A.ns.getD j nv0=x:=⟨_,rfl⟩;rw[Hn]at m3 m4 aa LY;simp only at m3 m4 aa;have ak:wr.drew.cell? ⟨B1,1,none⟩=some (.slice (some ⟨A.ga,0,none⟩) A.ns.length (A.ns.length+A.nj.length))∧wr.drew.cell? ⟨B3,1,none⟩=some (.slice (adr ag) j (j+jk.length))∧wr.drew.cell? ⟨A.ga,j*2,none⟩=some (.int .i64 x1)∧wr.drew.cell? ⟨A.ga,j*2+1,none⟩=some (.slice x2 x3 x4):=⟨m1,m2,m3,m4⟩;have HC:=aA hC;have LU:=aA fi;have Hv:=aA lk;have ts:=aA aa;have LQ:=aA AP;have vo:Hid (j+1≤A.ns.length):=ai;clear aa Hn hC fi lk yx AP;go_wp2;refine aZ (fun W=>W.cell? ⟨B1,1,none⟩=some (.slice (some ⟨A.ga,0,none⟩) A.ns.length (A.ns.length+A.nj.length))∧W.cell? ⟨B3,1,none⟩=some (.slice (adr ag) j (j+jk.length))∧W.cell? ⟨A.ga,j*2,none⟩=some (.int .i64 x1)∧W.cell? ⟨A.ga,j*2+1,none⟩=some (.slice x2 x3 x4)) 10 (by kernel_rfl) ?_;refine tJ 0 15 (.pointer (some ⟨B3,1,none⟩)) rfl ak ?_;simp only[Act.put,sB,sZ,sS];refine tJ 1 16 (.slice (adr ag) j (j+jk.length)) rfl ak ?_;simp only[Act.put,sB,sZ,sS];refine tJ 2 17 (.pointer (some ⟨B1,1,none⟩)) rfl ak ?_;simp only[Act.put,sB,sZ,sS];refine tJ 3 18 (.slice (some ⟨A.ga,0,none⟩) A.ns.length (A.ns.length+A.nj.length)) rfl ak ?_;simp only[Act.put,sB,sZ,sS];refine tJ 4 19 (.int .i64 j) rfl ak ?_;simp only[Act.put,sB,sZ,sS];refine tJ 5 20 (.pointer (some ⟨A.ga,j*2,none⟩)) rfl ak ?_;simp only[Act.put,sB,sZ,sS];refine tJ 6 21 (.agg #[.int .i64 x1,.slice x2 x3 x4]) rfl ak ?_;simp only[Act.put,sB,sZ,sS];refine oE 7 rfl fun K2 ae=>?_;go_simp;obtain⟨G,HG⟩:=exH (wr.heap.size);obtain⟨W1,DX⟩:=exH ((wr.alloc (.cells #[.int .i64 x1,.slice x2 x3 x4] 108)).drew);rw[←DX.out,←HG.out];have Er:Bl wr W1:=by rw[DX.out];exact((bQ _ wr).alloc (nR _) _).drew
   have iN:Frm (fun _=>False) wr W1:=Frm.of_below Er;have ke:yN.Sl W1 (.slice (some ⟨G,0,none⟩) 1 1) [(x1,x2,x3,x4)]:=by
    rw[DX.out,HG.out];exact(Ely.Sl.new (Y:=yN) wr (x1,x2,x3,x4) rfl).below (bQ _ _).drew
   have zw:=HC.out.frm iN (fun _ q=>q.elim);have sr:=LU.out.frm iN (fun _ _=>id);have Be:A.ga<wr.heap.size:=lL Ql HC.out.bel.size;have yl:=ts.out W1 (iN.block _ Be id);have qt:W1.cell? ⟨B1,1,none⟩=some (.slice (some ⟨A.ga,0,none⟩) A.ns.length (A.ns.length+A.nj.length))∧W1.cell? ⟨B3,1,none⟩=some (.slice (adr ag) j (j+jk.length))∧W1.cell? ⟨A.ga,j*2,none⟩=some (.int .i64 x1)∧W1.cell? ⟨A.ga,j*2+1,none⟩=some (.slice x2 x3 x4):=⟨by rw[zw.b1.cell];rfl,by rw[zw.b3.cell];rfl,yl.1,yl.2⟩;obtain⟨u,W2,a2,jk2,q9,hu,ro,lw,du⟩:=yN.append ag (A.ns.take j) jk [(x1,x2,x3,x4)] _ W1 sr ke (by have:=Ns.out;rw[LQ.out];simp;omega);rw[LQ.out]at q9 hu;have CY:u=.slice (adr a2) (j+1) (j+1+jk2.length):=hu;have av:∀g,ag=some g→g≠B1∧g≠B2∧g≠B3:=fun g e=>⟨(sr.arr g e).type_ne zw.b1 (by decide),(sr.arr g e).type_ne zw.b2 (by decide),(sr.arr g e).type_ne zw.b3 (by decide)⟩;have ww:=zw.frm du (fun g e=>⟨Hv.out g e,av g e⟩);have pr:=ts.out W2 ((du.block A.ga (lL Be Er.size) (fun e=>by have:=Hv.out _ e;omega)).trans (iN.block _ Be id));have c3:W2.cell? ⟨B3,1,none⟩=some (.slice (adr ag) j (j+jk.length)):=by rw[ww.b3.cell];rfl
   have z3:=ww.b3.frozen 1;have gp:W2.cell? ⟨B1,1,none⟩=some (.slice (some ⟨A.ga,0,none⟩) A.ns.length (A.ns.length+A.nj.length))∧W2.cell? ⟨B3,1,none⟩=some (.slice (adr ag) j (j+jk.length))∧W2.cell? ⟨A.ga,j*2,none⟩=some (.int .i64 x1)∧W2.cell? ⟨A.ga,j*2+1,none⟩=some (.slice x2 x3 x4):=⟨by rw[ww.b1.cell];rfl,c3,pr.1,pr.2⟩;have y9:∀g,a2=some g→w.heap.size≤g:=fun g e=>(lw g e).elim (Hv.out g) fun q=>lT zw.bel.size q;have DO:∀g,a2=some g→¬g=B3:=fun g e=>(ro.arr g e).type_ne ww.b3 (by decide);have DW:Hid (CpR yN w (.int .i64 f.cur.length) (.slice (some ⟨A.ga,0,none⟩) A.ns.length (A.ns.length+A.nj.length)) (.slice (some ⟨A.gr,0,none⟩) f.roots.length (f.roots.length+A.rj.length)) (.int .i64 f.next) (.int .i64 f.gen) (.slice ma f.com.length mc) (.slice ta tn tc) B1 B2 B3 true (.slice (some ⟨A.gr,0,none⟩) f.roots.length (f.roots.length+A.rj.length)) A.ns (j+1) (W2.setCell ⟨B3,1,none⟩ (.slice (adr a2) (j+1) (j+1+jk2.length)))):=by
    refine⟨a2,jk2,ww.set1 _,?_,y9⟩;rw[LY.out];exact ro.frm (Frm.set (S:=fun k=>k=B3) W2 (p:=⟨B3,1,none⟩) rfl _) DO
   refine ae _ _ (fun _=>qt) ?_;clear ae K2 ak;refine oE 8 rfl fun K2 ae=>?_;refine lH _ _ _ _ rfl 23 rfl _ _ rfl rfl u W2 (q9 _) ?_;simp only[Act.put,sB,sZ,sS];subst CY;refine ae _ _ (fun _=>gp) ?_;clear ae K2 qt hu q9;refine oE 9 rfl fun K2 ae=>?_;go_simp;refine ae _ _ (fun _=>gp) ?_;clear ae K2;refine oE 10 rfl fun K2 ae=>?_;go_simp;refine ae _ _ (fun q=>absurd rfl q) ?_;clear ae K2;refine aS (by kernel_rfl) ?_ _;clear zw ww sr ro iN du yl pr lw av y9 DO ke Er;obtain⟨w3,dh⟩:=eZ (W2.setCell ⟨B3,1,none⟩ (.slice (adr a2) (j+1) (j+1+jk2.length)));rw[dh]at DW;rw[dh];clear dh c3 z3;go_wp2;go_roundw
   case rel=>exact⟨j+1,vo.out,by go_num,DW.out⟩
   case measure=>have:=vo.out;simp[intOf];omega
  ·obtain rfl:j=A.ns.length:=by omega
   have OL:∃g,ag=some g:=by
    cases ag with
    | none=>have e:=(fi.nil rfl).1;rw[List.take_of_length_le (nR _)]at e;have:=Ns.out;rw[e]at this;simp at this;omega
    | some g=>exact⟨g,rfl⟩
   obtain⟨g1,rfl⟩:=OL;obtain⟨jn,rfl⟩:∃jn,jn=jk:=⟨_,rfl⟩;rw[List.take_of_length_le (nR _)]at fi;have z3:=hC.b3.frozen 2;have c3:wr.cell? ⟨B3,2,none⟩=some (.slice (some ⟨A.gr,0,none⟩) f.roots.length (f.roots.length+A.rj.length)):=by rw[hC.b3.cell];rfl
   have ww:=hC.set2' (.slice none 0 0);have KK:=fi.frm (Frm.set (S:=fun k=>k=B3) wr (p:=⟨B3,2,none⟩) rfl (.slice none 0 0)) (fun g e=>(fi.arr g e).type_ne hC.b3 (by decide));have g9:=lk g1 rfl;obtain⟨w4,cn⟩:=eZ (wr.setCell ⟨B3,2,none⟩ (.slice none 0 0));obtain⟨NV1,Pq⟩:=eZ (Value.slice (adr (some g1)) A.ns.length (A.ns.length+jn.length));rw[cn]at ww KK;rw[Pq]at ww;have CB:=aA ww;have Ep:=aA KK;have Uk:=aA Pq;have UW:=aA g9;clear ww KK Pq fi hC yx lk g9;go_wp2;go_loopw [5] (fun i wr=>∃j:Nat,j≤f.roots.length∧i=.int .i64 j∧CpR yT w (.int .i64 f.cur.length) (.slice (some ⟨A.ga,0,none⟩) A.ns.length (A.ns.length+A.nj.length)) (.slice (some ⟨A.gr,0,none⟩) f.roots.length (f.roots.length+A.rj.length)) (.int .i64 f.next) (.int .i64 f.gen) (.slice ma f.com.length mc) (.slice ta tn tc) B1 B2 B3 false NV1 f.roots j wr∧yN.Rw wr (some g1) A.ns jn) (fun i _=>f.roots.length -(intOf i).toNat)
   case atStart=>exact⟨0,by omega,rfl,⟨none,[],CB.out,⟨fun g e=>(by cases e),fun _=>⟨by simp,rfl⟩,by simp⟩,fun g e=>(by cases e)⟩,Ep.out⟩
   case round=>
    clear CB Ep cn z3 c3;obtain⟨j,hj,rfl,⟨ag,jk,hC,fi,lk⟩,Hf⟩:=hrel;simp only[if_false,Bool.false_eq_true]at hC;have m1:wr.cell? ⟨B1,2,none⟩=some (.slice (some ⟨A.gr,0,none⟩) f.roots.length (f.roots.length+A.rj.length)):=by rw[hC.b1.cell];rfl
    have m2:wr.cell? ⟨B3,2,none⟩=some (.slice (adr ag) j (j+jk.length)):=by rw[hC.b3.cell];rfl
    have yx:=KZ.out wr hC.bel;by_cases ai:j<f.roots.length
    ·have Jl:(j:Int) <(f.roots.length:Int):=by omega
     have aa:∀(W:World),W.heap[A.gr]?=wr.heap[A.gr]?→W.cell? ⟨A.gr,j*2,none⟩=some (.int .i64 (f.roots.getD j (0,0)).1)∧W.cell? ⟨A.gr,j*2+1,none⟩=some (.int .i64 (f.roots.getD j (0,0)).2):=fun W he=>by
      have hx:∀i,W.cell? ⟨A.gr,i,none⟩=wr.cell? ⟨A.gr,i,none⟩:=fun i=>by simp[World.cell?,he]
      rw[hx,hx];exact yx.root ai
     have LY:=aA (cC f.roots j (0,0) ai);have AP:(f.roots.take j).length=j:=by simp;omega
     obtain⟨m3,m4⟩:=aa wr rfl;obtain⟨⟨x1,x2⟩,Hn⟩:∃x,f.roots.getD j (0,0)=x:=⟨_,rfl⟩;rw[Hn]at m3 m4 aa LY;simp only at m3 m4 aa;have ak:wr.drew.cell? ⟨B1,2,none⟩=some (.slice (some ⟨A.gr,0,none⟩) f.roots.length (f.roots.length+A.rj.length))∧wr.drew.cell? ⟨B3,2,none⟩=some (.slice (adr ag) j (j+jk.length))∧wr.drew.cell? ⟨A.gr,j*2,none⟩=some (.int .i64 x1)∧wr.drew.cell? ⟨A.gr,j*2+1,none⟩=some (.int .i64 x2):=⟨m1,m2,m3,m4⟩;have HC:=aA hC;have LU:=aA fi;have H4:=aA Hf;have Hv:=aA lk;have ts:=aA aa;have LQ:=aA AP;have vo:Hid (j+1≤f.roots.length):=ai;clear aa Hn hC fi lk yx AP Hf;go_wp2;refine aZ (fun W=>W.cell? ⟨B1,2,none⟩=some (.slice (some ⟨A.gr,0,none⟩) f.roots.length (f.roots.length+A.rj.length))∧W.cell? ⟨B3,2,none⟩=some (.slice (adr ag) j (j+jk.length))∧W.cell? ⟨A.gr,j*2,none⟩=some (.int .i64 x1)∧W.cell? ⟨A.gr,j*2+1,none⟩=some (.int .i64 x2)) 10 (by kernel_rfl) ?_;refine tJ 0 33 (.pointer (some ⟨B3,2,none⟩)) rfl ak ?_;simp only[Act.put,sB,sZ,sS];refine tJ 1 34 (.slice (adr ag) j (j+jk.length)) rfl ak ?_;simp only[Act.put,sB,sZ,sS];refine tJ 2 35 (.pointer (some ⟨B1,2,none⟩)) rfl ak ?_;simp only[Act.put,sB,sZ,sS];refine tJ 3 36 (.slice (some ⟨A.gr,0,none⟩) f.roots.length (f.roots.length+A.rj.length)) rfl ak ?_;simp only[Act.put,sB,sZ,sS];refine tJ 4 37 (.int .i64 j) rfl ak ?_;simp only[Act.put,sB,sZ,sS];refine tJ 5 38 (.pointer (some ⟨A.gr,j*2,none⟩)) rfl ak ?_;simp only[Act.put,sB,sZ,sS];refine tJ 6 39 (.agg #[.int .i64 x1,.int .i64 x2]) rfl ak ?_;simp only[Act.put,sB,sZ,sS];refine oE 7 rfl fun K2 ae=>?_;go_simp;obtain⟨G,HG⟩:=exH (wr.heap.size);obtain⟨W1,DX⟩:=exH ((wr.alloc (.cells #[.int .i64 x1,.int .i64 x2] 77)).drew);rw[←DX.out,←HG.out];have Er:Bl wr W1:=by rw[DX.out];exact((bQ _ wr).alloc (nR _) _).drew
     have iN:Frm (fun _=>False) wr W1:=Frm.of_below Er;have ke:yT.Sl W1 (.slice (some ⟨G,0,none⟩) 1 1) [(x1,x2)]:=by
      rw[DX.out,HG.out];exact(Ely.Sl.new (Y:=yT) wr (x1,x2) rfl).below (bQ _ _).drew
     have zw:=HC.out.frm iN (fun _ q=>q.elim);have sr:=LU.out.frm iN (fun _ _=>id);have Be:A.gr<wr.heap.size:=lL Qr HC.out.bel.size;have yl:=ts.out W1 (iN.block _ Be id);have qt:W1.cell? ⟨B1,2,none⟩=some (.slice (some ⟨A.gr,0,none⟩) f.roots.length (f.roots.length+A.rj.length))∧W1.cell? ⟨B3,2,none⟩=some (.slice (adr ag) j (j+jk.length))∧W1.cell? ⟨A.gr,j*2,none⟩=some (.int .i64 x1)∧W1.cell? ⟨A.gr,j*2+1,none⟩=some (.int .i64 x2):=⟨by rw[zw.b1.cell];rfl,by rw[zw.b3.cell];rfl,yl.1,yl.2⟩;obtain⟨u,W2,a2,jk2,q9,hu,ro,lw,du⟩:=yT.append ag (f.roots.take j) jk [(x1,x2)] _ W1 sr ke (by have:=Ns.out;rw[LQ.out];simp;omega);rw[LQ.out]at q9 hu;have CY:u=.slice (adr a2) (j+1) (j+1+jk2.length):=hu;have av:∀g,ag=some g→g≠B1∧g≠B2∧g≠B3:=fun g e=>⟨(sr.arr g e).type_ne zw.b1 (by decide),(sr.arr g e).type_ne zw.b2 (by decide),(sr.arr g e).type_ne zw.b3 (by decide)⟩;have ww:=zw.frm du (fun g e=>⟨Hv.out g e,av g e⟩);have pr:=ts.out W2 ((du.block A.gr (lL Be Er.size) (fun e=>by have:=Hv.out _ e;omega)).trans (iN.block _ Be id));have c3:W2.cell? ⟨B3,2,none⟩=some (.slice (adr ag) j (j+jk.length)):=by rw[ww.b3.cell];rfl
     have z3:=ww.b3.frozen 2;have gp:W2.cell? ⟨B1,2,none⟩=some (.slice (some ⟨A.gr,0,none⟩) f.roots.length (f.roots.length+A.rj.length))∧W2.cell? ⟨B3,2,none⟩=some (.slice (adr ag) j (j+jk.length))∧W2.cell? ⟨A.gr,j*2,none⟩=some (.int .i64 x1)∧W2.cell? ⟨A.gr,j*2+1,none⟩=some (.int .i64 x2):=⟨by rw[ww.b1.cell];rfl,c3,pr.1,pr.2⟩;have y9:∀g,a2=some g→w.heap.size≤g:=fun g e=>(lw g e).elim (Hv.out g) fun q=>lT zw.bel.size q;have DO:∀g,a2=some g→¬g=B3:=fun g e=>(ro.arr g e).type_ne ww.b3 (by decide);have DW:Hid (CpR yT w (.int .i64 f.cur.length) (.slice (some ⟨A.ga,0,none⟩) A.ns.length (A.ns.length+A.nj.length)) (.slice (some ⟨A.gr,0,none⟩) f.roots.length (f.roots.length+A.rj.length)) (.int .i64 f.next) (.int .i64 f.gen) (.slice ma f.com.length mc) (.slice ta tn tc) B1 B2 B3 false NV1 f.roots (j+1) (W2.setCell ⟨B3,2,none⟩ (.slice (adr a2) (j+1) (j+1+jk2.length)))):=by
      refine⟨a2,jk2,ww.set2' _,?_,y9⟩;rw[LY.out];exact ro.frm (Frm.set (S:=fun k=>k=B3) W2 (p:=⟨B3,2,none⟩) rfl _) DO
     refine ae _ _ (fun _=>qt) ?_;clear ae K2 ak;refine oE 8 rfl fun K2 ae=>?_;refine lH _ _ _ _ rfl 41 rfl _ _ rfl rfl u W2 (q9 _) ?_;simp only[Act.put,sB,sZ,sS];subst CY;refine ae _ _ (fun _=>gp) ?_;clear ae K2 qt hu q9;refine oE 9 rfl fun K2 ae=>?_;go_simp;refine ae _ _ (fun _=>gp) ?_;clear ae K2;refine oE 10 rfl fun K2 ae=>?_;go_simp;refine ae _ _ (fun q=>absurd rfl q) ?_;clear ae K2;refine aS (by kernel_rfl) ?_ _;have LT:Hid (yN.Rw (W2.setCell ⟨B3,2,none⟩ (.slice (adr a2) (j+1) (j+1+jk2.length))) (some g1) A.ns jn):=by
      have k1:=H4.out.frm iN (fun _ _=>id);have k2:=k1.frm du (fun g e q=>(k1.arr g e).type_ne (sr.arr g q) (by decide) rfl);exact k2.frm (Frm.set (S:=fun k=>k=B3) W2 (p:=⟨B3,2,none⟩) rfl _) (fun g e=>(k2.arr g e).type_ne ww.b3 (by decide))
     clear zw ww sr ro iN du yl pr lw av y9 DO ke Er;obtain⟨w3,dh⟩:=eZ (W2.setCell ⟨B3,2,none⟩ (.slice (adr a2) (j+1) (j+1+jk2.length)));rw[dh]at DW LT;rw[dh];clear dh c3 z3;go_wp2;go_roundw
     case rel=>exact⟨j+1,vo.out,by go_num,DW.out,LT.out⟩
     case measure=>have:=vo.out;simp[intOf];omega
    ·obtain rfl:j=f.roots.length:=by omega
     obtain⟨g2,rfl⟩:∃g,ag=some g:=by
      cases ag with
      | none=>have e:=(fi.nil rfl).1;rw[List.take_of_length_le (nR _)]at e;rw[e]at h1;simp at h1
      | some g=>exact⟨g,rfl⟩
     rw[List.take_of_length_le (nR _)]at fi;have mj:=lk g2 rfl;have Wo:=Uk.out;subst Wo;have K0:IsC wr B2 #[.int .i64 0,.slice none 0 0,.slice none 0 0,.int .i64 0,.int .i64 0,.slice none 0 0,.slice none 0 0] 57:=hC.b2;have v0:wr.cell? ⟨B3,0,none⟩=some (.int .i64 f.cur.length):=by rw[hC.b3.cell];rfl
     have v1:wr.cell? ⟨B3,1,none⟩=some (.slice (some ⟨g1,0,none⟩) A.ns.length (A.ns.length+jn.length)):=by rw[hC.b3.cell];rfl
     have v2:wr.cell? ⟨B3,2,none⟩=some (.slice (some ⟨g2,0,none⟩) f.roots.length (f.roots.length+jk.length)):=by rw[hC.b3.cell];rfl
     have v3:wr.cell? ⟨B3,3,none⟩=some (.int .i64 f.next):=by rw[hC.b3.cell];rfl
     have v4:wr.cell? ⟨B3,4,none⟩=some (.int .i64 f.gen):=by rw[hC.b3.cell];rfl
     have v5:wr.cell? ⟨B3,5,none⟩=some (.slice ma f.com.length mc):=by rw[hC.b3.cell];rfl
     have v6:wr.cell? ⟨B3,6,none⟩=some (.slice ta tn tc):=by rw[hC.b3.cell];rfl
     have y0:wr.cell? ⟨B2,0,none⟩=some (.int .i64 0):=K0.c rfl;have z0:=K0.frozen 0;have K1:=K0.set 0 (.int .i64 f.cur.length);have F1:Frm (fun k=>k=B2) wr (wr.setCell ⟨B2,0,none⟩ (.int .i64 f.cur.length)):=Frm.set (S:=fun k=>k=B2) wr (p:=⟨B2,0,none⟩) rfl _;obtain⟨W1,z8⟩:=eZ (wr.setCell ⟨B2,0,none⟩ (.int .i64 f.cur.length));rw[z8]at K1 F1;have y1:W1.cell? ⟨B2,1,none⟩=some (.slice none 0 0):=K1.c rfl;have z1:=K1.frozen 1;have K2:=K1.set 1 (.slice (some ⟨g1,0,none⟩) A.ns.length (A.ns.length+jn.length));have F2:Frm (fun k=>k=B2) W1 (W1.setCell ⟨B2,1,none⟩ (.slice (some ⟨g1,0,none⟩) A.ns.length (A.ns.length+jn.length))):=Frm.set (S:=fun k=>k=B2) W1 (p:=⟨B2,1,none⟩) rfl _;obtain⟨W2,uz⟩:=eZ (W1.setCell ⟨B2,1,none⟩ (.slice (some ⟨g1,0,none⟩) A.ns.length (A.ns.length+jn.length)));rw[uz]at K2 F2;have y2:W2.cell? ⟨B2,2,none⟩=some (.slice none 0 0):=K2.c rfl;have z2:=K2.frozen 2;have K3:=K2.set 2 (.slice (some ⟨g2,0,none⟩) f.roots.length (f.roots.length+jk.length));have F3:Frm (fun k=>k=B2) W2 (W2.setCell ⟨B2,2,none⟩ (.slice (some ⟨g2,0,none⟩) f.roots.length (f.roots.length+jk.length))):=Frm.set (S:=fun k=>k=B2) W2 (p:=⟨B2,2,none⟩) rfl _;obtain⟨W3,yy⟩:=eZ (W2.setCell ⟨B2,2,none⟩ (.slice (some ⟨g2,0,none⟩) f.roots.length (f.roots.length+jk.length)));rw[yy]at K3 F3;have y3:W3.cell? ⟨B2,3,none⟩=some (.int .i64 0):=K3.c rfl;have z3:=K3.frozen 3;have K4:=K3.set 3 (.int .i64 f.next);have F4:Frm (fun k=>k=B2) W3 (W3.setCell ⟨B2,3,none⟩ (.int .i64 f.next)):=Frm.set (S:=fun k=>k=B2) W3 (p:=⟨B2,3,none⟩) rfl _;obtain⟨W4,Fk⟩:=eZ (W3.setCell ⟨B2,3,none⟩ (.int .i64 f.next));rw[Fk]at K4 F4;have y4:W4.cell? ⟨B2,4,none⟩=some (.int .i64 0):=K4.c rfl;have z4:=K4.frozen 4;have K5:=K4.set 4 (.int .i64 f.gen);have F5:Frm (fun k=>k=B2) W4 (W4.setCell ⟨B2,4,none⟩ (.int .i64 f.gen)):=Frm.set (S:=fun k=>k=B2) W4 (p:=⟨B2,4,none⟩) rfl _;obtain⟨W5,vb⟩:=eZ (W4.setCell ⟨B2,4,none⟩ (.int .i64 f.gen));rw[vb]at K5 F5;have y5:W5.cell? ⟨B2,5,none⟩=some (.slice none 0 0):=K5.c rfl;have z5:=K5.frozen 5;have K6:=K5.set 5 (.slice ma f.com.length mc);have F6:Frm (fun k=>k=B2) W5 (W5.setCell ⟨B2,5,none⟩ (.slice ma f.com.length mc)):=Frm.set (S:=fun k=>k=B2) W5 (p:=⟨B2,5,none⟩) rfl _;obtain⟨W6,Vh⟩:=eZ (W5.setCell ⟨B2,5,none⟩ (.slice ma f.com.length mc));rw[Vh]at K6 F6;have y6:W6.cell? ⟨B2,6,none⟩=some (.slice none 0 0):=K6.c rfl;have z6:=K6.frozen 6;have K7:=K6.set 6 (.slice ta tn tc);have F7:Frm (fun k=>k=B2) W6 (W6.setCell ⟨B2,6,none⟩ (.slice ta tn tc)):=Frm.set (S:=fun k=>k=B2) W6 (p:=⟨B2,6,none⟩) rfl _;obtain⟨W7,P8⟩:=eZ (W6.setCell ⟨B2,6,none⟩ (.slice ta tn tc));rw[P8]at K7 F7;have u0:W7.cell? ⟨B2,0,none⟩=some (.int .i64 f.cur.length):=K7.c rfl;have u1:W7.cell? ⟨B2,1,none⟩=some (.slice (some ⟨g1,0,none⟩) A.ns.length (A.ns.length+jn.length)):=K7.c rfl;have u2:W7.cell? ⟨B2,2,none⟩=some (.slice (some ⟨g2,0,none⟩) f.roots.length (f.roots.length+jk.length)):=K7.c rfl;have u3:W7.cell? ⟨B2,3,none⟩=some (.int .i64 f.next):=K7.c rfl;have u4:W7.cell? ⟨B2,4,none⟩=some (.int .i64 f.gen):=K7.c rfl;have u5:W7.cell? ⟨B2,5,none⟩=some (.slice ma f.com.length mc):=K7.c rfl;have u6:W7.cell? ⟨B2,6,none⟩=some (.slice ta tn tc):=K7.c rfl;have F:Frm (fun k=>k=B2) wr W7:=(((((F1.trans F2).trans F3).trans F4).trans F5).trans F6).trans F7;have vf:Bl w W7:=hC.bel.trans (F.below hC.bel.size fun g e=>by subst e;have:=hC.n12;exact hC.lo2);have iz:=KZ.out W7 vf;have r7:=fi.frm F (fun g e=>(fi.arr g e).type_ne K0 (by decide));have n7:=Hf.frm F (fun g e=>(Hf.arr g e).type_ne K0 (by decide));have O5:Hid (PS (.returned (.agg #[.int .i64 f.cur.length,.slice (some ⟨g1,0,none⟩) A.ns.length (A.ns.length+jn.length),.slice (some ⟨g2,0,none⟩) f.roots.length (f.roots.length+jk.length),.int .i64 f.next,.int .i64 f.gen,.slice ma f.com.length mc,.slice ta tn tc])) W7):=by
      show PS _ _
      rw[O6.out];refine O7.out _ _ {A with ga:=g1,nj:=jn,gr:=g2,rj:=jk} ?_ ⟨⟨n7.arr g1 rfl,fun b d hd=>iz.nds.nd b d hd,n7.small⟩,iz.ln,r7.arr g2 rfl,r7.small,iz.com⟩ rfl UW.out mj vf;unfold stV aK;rw[KU.out.1,KU.out.2.1]
     clear m2 hC fi Hf lk yx iz r7 n7 F F1 F2 F3 F4 F5 F6 F7 K0 K1 K2 K3 K4 K5 K6 K7 vf;go_wp2;refine bodyPost_ret (v:=.agg #[.int .i64 f.cur.length,.slice (some ⟨g1,0,none⟩) A.ns.length (A.ns.length+jn.length),.slice (some ⟨g2,0,none⟩) f.roots.length (f.roots.length+jk.length),.int .i64 f.next,.int .i64 f.gen,.slice ma f.com.length mc,.slice ta tn tc]) (by simp[results,Tryz.results65,Tryz.f65,go_sem,u0,u1,u2,u3,u4,u5,u6];try rfl) rfl ?_;exact O5.out
