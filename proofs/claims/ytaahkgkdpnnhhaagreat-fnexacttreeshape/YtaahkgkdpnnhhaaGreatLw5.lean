import Derived.Test.YtaahkgkdpnnhhaaGreatRt1
set_option maxHeartbeats 9999999
set_option maxRecDepth 99999
set_option linter.all false
namespace Go.Proofs.YtaahkgkdpnnhhaaGreat
open Go.RowKit Fo
theorem qC(x0:Int)(x1:Int)(x2:Int)(x3:Int)(x4:Int)(w:World):Calls Tryz.prog 43 #[.agg #[.int .i64 x0,.int .i64 x1,.int .i64 x2,.int .i64 x3,.int .i64 x4],.agg #[.int .i64 x0,.int .i64 x1,.int .i64 x2,.int .i64 x3,.int .i64 x4]] w fun e w'=>e=.returned (.bool true)∧Bl w w':=by
 have ak:(x0 != x0)=false:=by simp
 have qt:(x1 != x1)=false:=by simp
 have gp:(x2 != x2)=false:=by simp
 have qu:(x3 != x3)=false:=by simp
 have Br:(x4 != x4)=false:=by simp
 obtain⟨b1,ao⟩:=eZ (w.heap.size);obtain⟨w1,be⟩:=eZ (w.alloc (.cells #[.int .i64 x0,.int .i64 x1,.int .i64 x2,.int .i64 x3,.int .i64 x4] 82));obtain⟨b2,ba⟩:=eZ (w1.heap.size);obtain⟨w2,bw⟩:=eZ (w1.alloc (.cells #[.int .i64 x0,.int .i64 x1,.int .i64 x2,.int .i64 x3,.int .i64 x4] 82));have B1:=bAl be;have B2:=bAl bw;have i1:=iNw be ao;have i2:=iNw bw ba;have i1':=i1.of (B2.block _ i1.lt);have HB:=aA (B1.trans (B2.mono B1.size));have e0:w2.cell? ⟨b1,0,none⟩=some (.int .i64 x0):=i1'.c rfl;have f0:w2.cell? ⟨b2,0,none⟩=some (.int .i64 x0):=i2.c rfl;have e1:w2.cell? ⟨b1,1,none⟩=some (.int .i64 x1):=i1'.c rfl;have f1:w2.cell? ⟨b2,1,none⟩=some (.int .i64 x1):=i2.c rfl;have e2:w2.cell? ⟨b1,2,none⟩=some (.int .i64 x2):=i1'.c rfl;have f2:w2.cell? ⟨b2,2,none⟩=some (.int .i64 x2):=i2.c rfl;have e3:w2.cell? ⟨b1,3,none⟩=some (.int .i64 x3):=i1'.c rfl;have f3:w2.cell? ⟨b2,3,none⟩=some (.int .i64 x3):=i2.c rfl;have e4:w2.cell? ⟨b1,4,none⟩=some (.int .i64 x4):=i1'.c rfl;have f4:w2.cell? ⟨b2,4,none⟩=some (.int .i64 x4):=i2.c rfl;clear i1 i2 i1' B1 B2;go_enter Tryz.func43,Tryz.ntmps43;go_wp2;refine bodyPost_ret (v:=.bool true) (by simp[results,Tryz.results43,go_sem]) rfl ?_;exact⟨rfl,HB.out⟩
theorem aIH{w:World}{u:Value}{l:List VW}(h:yW.Sl w u l)(hl:0<l.length):∃g o c,u=.slice (some ⟨g,o,none⟩) l.length c∧g<w.heap.size∧∀(w':World) (i:Nat),(w'.heap[g]?=w.heap[g]?)→i<l.length→w'.cell? ⟨g,o+i*5,none⟩=some (.int .i64 (l.getD i yW.z).1)∧w'.cell? ⟨g,o+i*5+1,none⟩=some (.int .i64 (l.getD i yW.z).2.1)∧w'.cell? ⟨g,o+i*5+2,none⟩=some (.int .i64 (l.getD i yW.z).2.2.1)∧w'.cell? ⟨g,o+i*5+3,none⟩=some (.int .i64 (l.getD i yW.z).2.2.2.1)∧w'.cell? ⟨g,o+i*5+4,none⟩=some (.int .i64 (l.getD i yW.z).2.2.2.2):=by
 obtain⟨g,o,c,e,hg,hc⟩:=h.at hl;refine⟨g,o,c,e,hg,fun w' i he hi=>?_⟩;have hw:∀k,w'.cell? ⟨g,k,none⟩=w.cell? ⟨g,k,none⟩:=fun k=>by simp[World.cell?,he]
 refine⟨?_,?_,?_,?_,?_⟩
 ·rw[hw];exact hc i 0 hi (by decide)
 ·rw[hw];exact hc i 1 hi (by decide)
 ·rw[hw];exact hc i 2 hi (by decide)
 ·rw[hw];exact hc i 3 hi (by decide)
 ·rw[hw];exact hc i 4 hi (by decide)
theorem gT(v v':Value)(l:List VW)(w:World)(hv:yW.Sl w v l)(nw:yW.Sl w v' l)(hn:l.length≤4294967296):Calls Tryz.prog 18 #[v,v'] w fun e w'=>e=.returned (.bool true)∧Bl w w':=by
 obtain⟨va,vc,iq⟩:=hv.len;obtain⟨ua,uc,LC⟩:=nw.len;have HV:=aA (aI hv nw);subst iq;subst LC;clear hv nw;have MV:((l.length:Int) !=(l.length:Int))=false:=by simp
 go_enter Tryz.func18,Tryz.ntmps18
 go_wp2
 go_loopw [5] (fun i wr=>∃k:Nat,k≤l.length∧i=.int .i64 k∧Bl w wr) (fun i _=>l.length -(intOf i).toNat)
 case atStart=>exact⟨0,by omega,rfl,bQ _ _⟩
 case round=>
  obtain⟨k,hk,rfl,hb⟩:=hrel;by_cases ai:k<l.length
  ·obtain⟨g,o,cc,iq,qo,aa⟩:=aIH HV.out.1 (by omega)
   simp only[Value.slice.injEq,true_and]at iq;obtain⟨rfl,rfl⟩:=iq;obtain⟨g',o',cc',Ej,Bh,eo⟩:=aIH HV.out.2 (by omega);simp only[Value.slice.injEq,true_and]at Ej;obtain⟨rfl,rfl⟩:=Ej;have lm:(k:Int) <(l.length:Int):=by omega
   have ha:=aa wr k (hb.block g qo) ai;have hc:=eo wr k (hb.block g' Bh) ai;have HA:Hid (∀wq,Bl wr wq→wq.cell? ⟨g,o+k*5,none⟩=some (.int .i64 (l.getD k yW.z).1)∧wq.cell? ⟨g,o+k*5+1,none⟩=some (.int .i64 (l.getD k yW.z).2.1)∧wq.cell? ⟨g,o+k*5+2,none⟩=some (.int .i64 (l.getD k yW.z).2.2.1)∧wq.cell? ⟨g,o+k*5+3,none⟩=some (.int .i64 (l.getD k yW.z).2.2.2.1)∧wq.cell? ⟨g,o+k*5+4,none⟩=some (.int .i64 (l.getD k yW.z).2.2.2.2)∧wq.cell? ⟨g',o'+k*5,none⟩=some (.int .i64 (l.getD k yW.z).1)∧wq.cell? ⟨g',o'+k*5+1,none⟩=some (.int .i64 (l.getD k yW.z).2.1)∧wq.cell? ⟨g',o'+k*5+2,none⟩=some (.int .i64 (l.getD k yW.z).2.2.1)∧wq.cell? ⟨g',o'+k*5+3,none⟩=some (.int .i64 (l.getD k yW.z).2.2.2.1)∧wq.cell? ⟨g',o'+k*5+4,none⟩=some (.int .i64 (l.getD k yW.z).2.2.2.2)):=fun wq hq=>by
    have mi:=hb.trans (hq.mono hb.size);have h1:=aa wq k (mi.block g qo) ai;have h2:=eo wq k (mi.block g' Bh) ai;exact⟨h1.1,h1.2.1,h1.2.2.1,h1.2.2.2.1,h1.2.2.2.2,h2.1,h2.2.1,h2.2.2.1,h2.2.2.2.1,h2.2.2.2.2⟩
   generalize l.getD k yW.z=op at *;obtain⟨x0,x1,x2,x3,x4⟩:=op;simp only at ha hc HA;obtain⟨p0,p1,p2,p3,p4⟩:=ha;obtain⟨q0,q1,q2,q3,q4⟩:=hc;clear aa eo;go_wp2;go_region_held3 (fun W=>W.cell? ⟨g,o+k*5,none⟩=some (.int .i64 x0)∧W.cell? ⟨g,o+k*5+1,none⟩=some (.int .i64 x1)∧W.cell? ⟨g,o+k*5+2,none⟩=some (.int .i64 x2)∧W.cell? ⟨g,o+k*5+3,none⟩=some (.int .i64 x3)∧W.cell? ⟨g,o+k*5+4,none⟩=some (.int .i64 x4)∧W.cell? ⟨g',o'+k*5,none⟩=some (.int .i64 x0)∧W.cell? ⟨g',o'+k*5+1,none⟩=some (.int .i64 x1)∧W.cell? ⟨g',o'+k*5+2,none⟩=some (.int .i64 x2)∧W.cell? ⟨g',o'+k*5+3,none⟩=some (.int .i64 x3)∧W.cell? ⟨g',o'+k*5+4,none⟩=some (.int .i64 x4)) (first | assumption | go_keep | exact⟨p0,p1,p2,p3,p4,q0,q1,q2,q3,q4⟩ | exact HA.out _ (bQ _ _).drew | exact HA.out _ hB) ((go_at_call 43;refine(qC x0 x1 x2 x3 x4 _).mono ?_;rintro e w2 ⟨rfl,c9⟩;have hB:Bl wr w2:=(bQ wr.heap.size wr).drew.trans c9));go_wp2;go_roundw
   case rel=>exact⟨k+1,by omega,by go_num,hb.trans (hB.mono hb.size)⟩
   case measure=>simp[intOf];omega
  ·have lm:¬(k:Int) <(l.length:Int):=by omega
   go_wp2
   refine bodyPost_ret (v:=.bool true) (by simp[results,Tryz.results18,go_sem]) rfl ?_;exact⟨rfl,hb⟩
def jV(k:Int)(j:Nat):VW:=((k+5*(j:Int)),(k+5*(j:Int)+1),(k+5*(j:Int)+1+1),(k+5*(j:Int)+1+1+1),(k+5*(j:Int)+1+1+1+1))
def cJ(k:Int)(m:Nat):List VW:=(List.range m).map fun j=>jV k j
def cI(k:Int)(l:List VW)(j:Nat):List VW:=cJ k j++l.drop j
theorem gU(k:Int)(m:Nat):(cJ k m).length=m:=by simp[cJ]
theorem qK(k:Int)(l:List VW)(j:Nat)(h:j≤l.length):(cI k l j).length=l.length:=by simp[cI,gU];omega
theorem pC(k:Int)(l:List VW):cI k l 0=l:=by simp[cI,cJ]
theorem qJ(k:Int)(l:List VW):cI k l l.length=cJ k l.length:=by simp[cI]
theorem qL(k:Int)(m j:Nat)(z:VW)(h:j<m):(cJ k m).getD j z=jV k j:=by simp[cJ,h]
theorem pB(k:Int)(l:List VW)(j:Nat)(h:j<l.length):(cI k l j).set j (jV k j)=cI k l (j+1):=by
 unfold cI;have hl:=gU k j;rw[List.set_append_right _ _ (by omega),hl,Nat.sub_self,List.drop_eq_getElem_cons h,List.set_cons_zero];have:cJ k (j+1)=cJ k j++[jV k j]:=by unfold cJ;rw[List.range_succ,List.map_append];rfl
 rw[this,List.append_assoc];rfl
theorem nW(lo hi:Nat)(v:Value)(l:List VW)(k:Int)(w:World)(hv:fN yW lo hi w v l)(hk:1≤k)(hn:k+5*(l.length:Int)≤900000000):Calls Tryz.prog 19 #[v,.int .i64 k] w fun e w'=>e=.returned (.int .i64 (k+5*(l.length:Int)))∧fN yW lo hi w' v (cJ k l.length)∧Upd lo hi w w':=by
 obtain⟨va,vc,iq⟩:=hv.len;subst iq;have HV:=aA hv;clear hv;go_enter Tryz.func19,Tryz.ntmps19;go_wp2;go_loopw [1,5] (fun q i wr=>∃j:Nat,j≤l.length∧i=.int .i64 j∧q=.int .i64 (k+5*(j:Int))∧fN yW lo hi wr (.slice va l.length vc) (cI k l j)∧Frm (fun b=>lo≤b∧b<hi) w wr) (fun _ i _=>l.length -(intOf i).toNat)
 case atStart=>exact⟨0,by omega,rfl,by simp,by rw[pC];exact HV.out,Frm.refl _ _⟩
 case round=>
  obtain⟨j,hj,rfl,rfl,hO,hF⟩:=hrel;have fe:=qK k l j hj;by_cases ai:j<l.length
  ·have qn:=aA (pB k l j ai)
   rcases hO with⟨e,e2⟩ | ⟨g,cap,pre,post,e,g9,mj,I0⟩
   ·rw[e2]at fe;simp at fe;omega
   rw[fe]at e;simp only[Value.slice.injEq,true_and]at e;obtain⟨rfl,rfl⟩:=e;generalize cI k l j=M at *;have E9:j<M.length:=by omega
   have dq:(j:Int) <(l.length:Int):=by omega
   have fu:k+5*(j:Int)+5≤900000000:=by omega
   obtain⟨⟨y0,y1,y2,y3,y4⟩,rh⟩:∃x,M.getD j yW.z=x:=⟨_,rfl⟩;have Em:=aA rh;obtain⟨o,ho⟩:=eZ (pre.length*yW.n);have HO:=aA ho;rw[ho];have CC:Hid (∀(W:World) (N:List VW),IsC W g (yW.row (pre++N++post)) 82→N.length=M.length→W.cell? ⟨g,o+j*5,none⟩=some (.int .i64 (N.getD j yW.z).1)∧W.cell? ⟨g,o+j*5+1,none⟩=some (.int .i64 (N.getD j yW.z).2.1)∧W.cell? ⟨g,o+j*5+2,none⟩=some (.int .i64 (N.getD j yW.z).2.2.1)∧W.cell? ⟨g,o+j*5+3,none⟩=some (.int .i64 (N.getD j yW.z).2.2.2.1)∧W.cell? ⟨g,o+j*5+4,none⟩=some (.int .i64 (N.getD j yW.z).2.2.2.2)):=fun W N hI hN=>by
    rw[←ho];refine⟨?_,?_,?_,?_,?_⟩
    ·exact yW.mid hI (j:=j) (f:=0) (by omega) (by decide)
    ·exact yW.mid hI (j:=j) (f:=1) (by omega) (by decide)
    ·exact yW.mid hI (j:=j) (f:=2) (by omega) (by decide)
    ·exact yW.mid hI (j:=j) (f:=3) (by omega) (by decide)
    ·exact yW.mid hI (j:=j) (f:=4) (by omega) (by decide)
   have lr:Hid (∀(W:World) (N:List VW) (f:Nat) (vv:Value) (a':VW),IsC W g (yW.row (pre++N++post)) 82→N.length=M.length→f<5→yW.cell a'=(yW.cell (N.getD j yW.z)).set f vv→IsC (W.setCell ⟨g,o+j*5+f,none⟩ vv) g (yW.row (pre++N.set j a'++post)) 82):=fun W N f vv a' hI hN hf hc=>by
    have:=hI.set (o+j*5+f) vv
    have e:o+j*5+f=(pre.length+j)*yW.n+f:=by rw[←ho,Nat.add_mul];rfl
    rw[e]at this ⊢;rw[yW.set1 (pre++N++post) (i:=pre.length+j) (by simp;omega) hf vv a' (by rw[wW pre N post j (by omega)];exact hc),aCV pre N post j (by omega)]at this;exact this
   clear ho;have G0:M.getD j yW.z=(y0,y1,y2,y3,y4):=rh;have FR0:=hF;clear rh hF;have c0:wr.cell? ⟨g,o+j*5,none⟩=some (.int .i64 y0):=by have:=(CC.out wr _ I0 (by simp)).1;rw[G0]at this;exact this
   have z0:=I0.frozen (o+j*5);have I1:=lr.out wr _ 0 (.int .i64 (k+5*(j:Int))) ((k+5*(j:Int)),y1,y2,y3,y4) I0 (by simp) (by omega) (by rw[G0];rfl);simp only[Nat.add_zero]at I1;have FR1:=FR0.trans (Frm.set (S:=fun b=>lo≤b∧b<hi) wr (p:=⟨g,o+j*5,none⟩) ⟨g9,mj⟩ (.int .i64 (k+5*(j:Int))));obtain⟨W1,z8⟩:=eZ (wr.setCell ⟨g,o+j*5,none⟩ (.int .i64 (k+5*(j:Int))));rw[z8]at I1 FR1;have G1:(M.set j ((k+5*(j:Int)),y1,y2,y3,y4)).getD j yW.z=((k+5*(j:Int)),y1,y2,y3,y4):=by simp[E9]
   have c1:W1.cell? ⟨g,o+j*5+1,none⟩=some (.int .i64 y1):=by have:=(CC.out W1 _ I1 (by simp)).2.1;rw[G1]at this;exact this
   have z1:=I1.frozen (o+j*5+1);have I2:=lr.out W1 _ 1 (.int .i64 (k+5*(j:Int)+1)) ((k+5*(j:Int)),(k+5*(j:Int)+1),y2,y3,y4) I1 (by simp) (by omega) (by rw[G1];rfl);have FR2:=FR1.trans (Frm.set (S:=fun b=>lo≤b∧b<hi) W1 (p:=⟨g,o+j*5+1,none⟩) ⟨g9,mj⟩ (.int .i64 (k+5*(j:Int)+1)));obtain⟨W2,uz⟩:=eZ (W1.setCell ⟨g,o+j*5+1,none⟩ (.int .i64 (k+5*(j:Int)+1)));rw[uz]at I2 FR2;rw[List.set_set]at I2;have G2:(M.set j ((k+5*(j:Int)),(k+5*(j:Int)+1),y2,y3,y4)).getD j yW.z=((k+5*(j:Int)),(k+5*(j:Int)+1),y2,y3,y4):=by simp[E9]
   have c2:W2.cell? ⟨g,o+j*5+2,none⟩=some (.int .i64 y2):=by have:=(CC.out W2 _ I2 (by simp)).2.2.1;rw[G2]at this;exact this
   have z2:=I2.frozen (o+j*5+2);have I3:=lr.out W2 _ 2 (.int .i64 (k+5*(j:Int)+1+1)) ((k+5*(j:Int)),(k+5*(j:Int)+1),(k+5*(j:Int)+1+1),y3,y4) I2 (by simp) (by omega) (by rw[G2];rfl);have FR3:=FR2.trans (Frm.set (S:=fun b=>lo≤b∧b<hi) W2 (p:=⟨g,o+j*5+2,none⟩) ⟨g9,mj⟩ (.int .i64 (k+5*(j:Int)+1+1)));obtain⟨W3,yy⟩:=eZ (W2.setCell ⟨g,o+j*5+2,none⟩ (.int .i64 (k+5*(j:Int)+1+1)));rw[yy]at I3 FR3;rw[List.set_set]at I3;have G3:(M.set j ((k+5*(j:Int)),(k+5*(j:Int)+1),(k+5*(j:Int)+1+1),y3,y4)).getD j yW.z=((k+5*(j:Int)),(k+5*(j:Int)+1),(k+5*(j:Int)+1+1),y3,y4):=by simp[E9]
   have c3:W3.cell? ⟨g,o+j*5+3,none⟩=some (.int .i64 y3):=by have:=(CC.out W3 _ I3 (by simp)).2.2.2.1;rw[G3]at this;exact this
   have z3:=I3.frozen (o+j*5+3);have I4:=lr.out W3 _ 3 (.int .i64 (k+5*(j:Int)+1+1+1)) ((k+5*(j:Int)),(k+5*(j:Int)+1),(k+5*(j:Int)+1+1),(k+5*(j:Int)+1+1+1),y4) I3 (by simp) (by omega) (by rw[G3];rfl);have FR4:=FR3.trans (Frm.set (S:=fun b=>lo≤b∧b<hi) W3 (p:=⟨g,o+j*5+3,none⟩) ⟨g9,mj⟩ (.int .i64 (k+5*(j:Int)+1+1+1)));obtain⟨W4,Fk⟩:=eZ (W3.setCell ⟨g,o+j*5+3,none⟩ (.int .i64 (k+5*(j:Int)+1+1+1)));rw[Fk]at I4 FR4;rw[List.set_set]at I4;have G4:(M.set j ((k+5*(j:Int)),(k+5*(j:Int)+1),(k+5*(j:Int)+1+1),(k+5*(j:Int)+1+1+1),y4)).getD j yW.z=((k+5*(j:Int)),(k+5*(j:Int)+1),(k+5*(j:Int)+1+1),(k+5*(j:Int)+1+1+1),y4):=by simp[E9]
   have c4:W4.cell? ⟨g,o+j*5+4,none⟩=some (.int .i64 y4):=by have:=(CC.out W4 _ I4 (by simp)).2.2.2.2;rw[G4]at this;exact this
   have z4:=I4.frozen (o+j*5+4);have I5:=lr.out W4 _ 4 (.int .i64 (k+5*(j:Int)+1+1+1+1)) ((k+5*(j:Int)),(k+5*(j:Int)+1),(k+5*(j:Int)+1+1),(k+5*(j:Int)+1+1+1),(k+5*(j:Int)+1+1+1+1)) I4 (by simp) (by omega) (by rw[G4];rfl);have FR5:=FR4.trans (Frm.set (S:=fun b=>lo≤b∧b<hi) W4 (p:=⟨g,o+j*5+4,none⟩) ⟨g9,mj⟩ (.int .i64 (k+5*(j:Int)+1+1+1+1)));obtain⟨W5,vb⟩:=eZ (W4.setCell ⟨g,o+j*5+4,none⟩ (.int .i64 (k+5*(j:Int)+1+1+1+1)));rw[vb]at I5 FR5;rw[List.set_set]at I5;have G5:(M.set j ((k+5*(j:Int)),(k+5*(j:Int)+1),(k+5*(j:Int)+1+1),(k+5*(j:Int)+1+1+1),(k+5*(j:Int)+1+1+1+1))).getD j yW.z=((k+5*(j:Int)),(k+5*(j:Int)+1),(k+5*(j:Int)+1+1),(k+5*(j:Int)+1+1+1),(k+5*(j:Int)+1+1+1+1)):=by simp[E9]
   have HN:Hid (fN yW lo hi W5 (.slice (some ⟨g,o,none⟩) l.length vc) (cI k l (j+1))):=by
    rw[←qn.out];refine .inr ⟨g,vc,pre,post,?_,g9,mj,I5⟩;rw[List.length_set,fe];show Value.slice (some ⟨g,o,none⟩) _ _=Value.slice (some ⟨g,pre.length*yW.n,none⟩) _ _
    rw[HO.out]
   clear CC lr Em G0 G1 G2 G3 G4 G5 I0 I1 I2 I3 I4 I5;go_wp2;go_roundw
   case rel=>exact⟨j+1,by omega,by go_num,by go_num,HN.out,FR5⟩
   case measure=>simp[intOf];omega
  ·obtain rfl:j=l.length:=by omega
   rw[qJ]at hO;have HN:=aA hO;have dq:¬((l.length:Nat):Int) <((l.length:Nat):Int):=by omega
   clear hO;go_wp2;refine bodyPost_ret (v:=.int .i64 (k+5*(l.length:Int))) (by simp[results,Tryz.results19,go_sem]) rfl ?_;exact⟨rfl,HN.out,⟨hF.os,hF.tape,hF.output,hF.size,fun b hb hn=>hF.block b hb (by omega)⟩⟩
theorem nI(v:Value)(k:Int)(m:Nat)(w:World)(hv:yW.Sl w v (cJ k m))(hk:1≤k)(hn:k+5*(m:Int)≤900000000):Calls Tryz.prog 20 #[v,.int .i64 k] w fun e w'=>e=.returned (.int .i64 (k+5*(m:Int)))∧Bl w w':=by
 obtain⟨va,vc,iq⟩:=hv.len;have CV:=gU k m;rw[CV]at iq;have HV:=aA (aI hv iq);subst iq;clear hv;go_enter Tryz.func20,Tryz.ntmps20;go_wp2;go_loopw [1,5] (fun q i wr=>∃j:Nat,j≤m∧i=.int .i64 j∧q=.int .i64 (k+5*(j:Int))∧Bl w wr) (fun _ i _=>m -(intOf i).toNat)
 case atStart=>exact⟨0,by omega,rfl,by simp,bQ _ _⟩
 case round=>
  obtain⟨j,hj,rfl,rfl,hb⟩:=hrel;by_cases ai:j<m
  ·obtain⟨g,o,cc,iq,qo,aa⟩:=aIH HV.out.1 (by omega)
   rw[CV]at iq;simp only[Value.slice.injEq,true_and]at iq;obtain⟨rfl,rfl⟩:=iq;have dq:(j:Int) <(m:Int):=by omega
   have fu:k+5*(j:Int)+5≤900000000:=by omega
   have HA:Hid (∀wq,Bl w wq→wq.cell? ⟨g,o+j*5,none⟩=some (.int .i64 (k+5*(j:Int)))∧wq.cell? ⟨g,o+j*5+1,none⟩=some (.int .i64 (k+5*(j:Int)+1))∧wq.cell? ⟨g,o+j*5+2,none⟩=some (.int .i64 (k+5*(j:Int)+1+1))∧wq.cell? ⟨g,o+j*5+3,none⟩=some (.int .i64 (k+5*(j:Int)+1+1+1))∧wq.cell? ⟨g,o+j*5+4,none⟩=some (.int .i64 (k+5*(j:Int)+1+1+1+1))):=fun wq hq=>by
    have h1:=aa wq j (hq.block g qo) (by omega);rw[qL k m j yW.z ai]at h1;exact h1
   clear aa;have c0:=(HA.out wr hb).1;have q0:((k+5*(j:Int)) !=(k+5*(j:Int)))=false:=by simp
   have c1:=(HA.out wr hb).2.1;have q1:((k+5*(j:Int)+1) !=(k+5*(j:Int)+1))=false:=by simp
   have c2:=(HA.out wr hb).2.2.1;have q2:((k+5*(j:Int)+1+1) !=(k+5*(j:Int)+1+1))=false:=by simp
   have c3:=(HA.out wr hb).2.2.2.1;have q3:((k+5*(j:Int)+1+1+1) !=(k+5*(j:Int)+1+1+1))=false:=by simp
   have c4:=(HA.out wr hb).2.2.2.2;have q4:((k+5*(j:Int)+1+1+1+1) !=(k+5*(j:Int)+1+1+1+1))=false:=by simp
   go_wp2
   go_roundw
   case rel=>exact⟨j+1,by omega,by go_num,by go_num,hb⟩
   case measure=>simp[intOf];omega
  ·obtain rfl:j=m:=by omega
   have dq:¬((j:Nat):Int) <((j:Nat):Int):=by omega
   go_wp2
   refine bodyPost_ret (v:=.int .i64 (k+5*(j:Int))) (by simp[results,Tryz.results20,go_sem]) rfl ?_;exact⟨rfl,hb⟩
theorem tN(n:Int)(ops:List TO)(tree:Int):(tsV n ops tree).length≤5120:=by
 by_cases h:trC n ops=0
 ·cases ha:atT (trF n ops) tree with
  | none=>rw[(aDB h ha).2];simp
  | some t=>
   have hI:=(aBT h).inv;obtain⟨hh,hk,GU⟩:=hI.ok t (mC ha).1;obtain⟨q1,_,q3⟩:=aBK hI.ic hk GU;rw[(xM h ha).2,q1];exact q3
 ·rw[(aIB tree h).2];simp
theorem oG(n:Int)(ops:List TO)(v:Value)(tree:Int)(w:World)(hv:yO.Sl w v ops)(hl:ops.length≤1048576):Calls Tryz.prog 16 #[.int .i64 n,v,.int .i64 tree] w fun e w'=>∃a c,e=.returned (.tuple #[.slice a (tsV n ops tree).length c,.int .i64 (tsC n ops tree)])∧fN yW w.heap.size w'.heap.size w' (.slice a (tsV n ops tree).length c) (tsV n ops tree)∧Bl w w':=
 (oF n ops v tree w hv hl).mono fun e w' ⟨u,h1,h2,h3⟩=>by
  obtain⟨a,c,rfl⟩:=h2.sl.len;exact⟨a,c,h1,h2.yown,h3⟩
theorem iU(n:Int)(ops:List TO)(v:Value)(tree:Int)(w:World)(hv:yO.Sl w v ops)(hl:ops.length≤1048576):Calls Tryz.prog 17 #[.int .i64 n,v,.int .i64 tree] w fun e w'=>∃a c,e=.returned (.tuple #[.slice a (tsV n ops tree).length c,.int .i64 (tsC n ops tree)])∧fN yW w.heap.size w'.heap.size w' (.slice a (tsV n ops tree).length c) (tsV n ops tree)∧Bl w w':=
 (nJ n ops v tree w hv hl).mono fun e w' ⟨u,h1,h2,h3⟩=>by
  obtain⟨a,c,rfl⟩:=h2.sl.len;exact⟨a,c,h1,h2.yown,h3⟩
theorem tO(x0:Int)(a1:Option Addr)(c1:Nat)(z1:List TO)(x2:Int)(w:World)(C8:RdL w (.slice a1 z1.length c1) z1)(vj:z1.length≤9223372036854775807)(fz:∀o∈z1,o.2.2.1.size≤9223372036854775807∧o.2.2.2.size≤9223372036854775807):
  Calls Tryz.prog 4 #[.int .i64 x0,.slice a1 z1.length c1,.int .i64 x2] w fun e w'=>e=.returned (.bool true)∧Bl w w':=by
 have KE:=tN x0 z1 x2;have av:(tsC x0 z1 x2 != tsC x0 z1 x2)=false:=by simp
 go_enter Tryz.func4,Tryz.ntmps4
 go_wp2_with fail
 refine(uP z1 _ w C8 vj fz).mono ?_;rintro e w1 ⟨⟨r,rfl,qv⟩,ao⟩;by_cases GA:r<0
 case pos=>
  have HB:=aA ao;clear ao;go_wp2;refine bodyPost_ret (v:=.bool true) (by simp[results,Tryz.results4,go_sem]) rfl ?_;exact⟨rfl,HB.out⟩
 have d8:z1.length≤1048576:=qv (by omega);clear qv;have di:=ao;have io:=ao.size;clear ao;go_wp2_with fail;refine(gH _ z1 _ (C8.below di) (by omega)).mono ?_;rintro e w2 ⟨rfl,s_2,ba⟩;have D7:=di.trans (ba.mono di.size);have rq:=ba.size;clear ba di;go_wp2_with fail;refine(oG x0 z1 _ x2 _ s_2.sl (by omega)).mono ?_;rintro e w3 ⟨Wa0,Wc0,rfl,W0_3,ce⟩;have s_3:=s_2.below ce;have CP:=D7.trans (ce.mono D7.size);have Hg:=ce.size;clear s_2 ce D7;clear s_3;go_wp2_with fail;refine(gH _ z1 _ (C8.below CP) (by omega)).mono ?_;rintro e w4 ⟨rfl,X_4,jq⟩;have W0_4:=W0_3.below jq;have D8:=CP.trans (jq.mono CP.size);have yh:=jq.size;clear W0_3 jq CP;go_wp2_with fail;refine(iU x0 z1 _ x2 _ X_4.sl (by omega)).mono ?_;rintro e w5 ⟨Ga0,Gc0,rfl,G0_5,et⟩;have W0_5:=W0_4.below et;have X_5:=X_4.below et;have D9:=D8.trans (et.mono D8.size);have K9:=et.size;clear W0_4 X_4 et D8;go_wp2_with fail;refine(gT _ _ (tsV x0 z1 x2) _ G0_5.sl W0_5.sl (by omega)).mono ?_;rintro e w6 ⟨rfl,kj⟩;have W0_6:=W0_5.below kj;have X_6:=X_5.below kj;have G0_6:=G0_5.below kj;have CQ:=D9.trans (kj.mono D9.size);have Rl:=kj.size;clear W0_5 X_5 G0_5 kj D9;go_wp2_with fail;refine(gH _ z1 _ (C8.below CQ) (by omega)).mono ?_;rintro e w7 ⟨rfl,T_7,vf⟩;have W0_7:=W0_6.below vf;have X_7:=X_6.below vf;have G0_7:=G0_6.below vf;have EA:=CQ.trans (vf.mono CQ.size);have YV:=vf.size;clear W0_6 X_6 G0_6 vf CQ;go_wp2_with fail;refine(tZ _ _ z1 _ X_7.sl T_7.sl (by omega)).mono ?_;rintro e w8 ⟨rfl,oh⟩;have W0_8:=W0_7.below oh;have X_8:=X_7.below oh;have G0_8:=G0_7.below oh;have T_8:=T_7.below oh;have Gn:=EA.trans (oh.mono EA.size);have NH:=oh.size;clear W0_7 X_7 G0_7 T_7 oh EA;clear T_8;go_wp2_with fail;refine(qH _ _ _ z1 1 _ X_8 (by omega) (by omega)).mono ?_;rintro e w9 ⟨rfl,-,NW⟩;have W0_9:=W0_8.upd NW (by omega);have G0_9:=G0_8.upd NW (by omega);have EB:=Gn.trans (NW.below (by omega) (by omega));have Rm:=NW.size;clear W0_8 G0_8 NW Gn;clear X_8;have vi:¬(1+4*(z1.length:Int))<0:=by omega
 go_wp2_with fail
 refine(gT _ _ (tsV x0 z1 x2) _ G0_9.sl W0_9.sl (by omega)).mono ?_;rintro e w10 ⟨rfl,AA⟩;have W0_10:=W0_9.below AA;have G0_10:=G0_9.below AA;have D6:=EB.trans (AA.mono EB.size);have C3:=AA.size;clear W0_9 G0_9 AA EB;go_wp2_with fail;refine(nW _ _ _ (tsV x0 z1 x2) (1) _ G0_10 (by omega) (by omega)).mono ?_;rintro e w11 ⟨rfl,M0_11,GO⟩;have W0_11:=W0_10.upd GO (by omega);have BX:=D6.trans (GO.below (by omega) (by omega));have XD:=GO.size;clear W0_10 GO D6;clear G0_10;go_wp2_with fail;refine(nI _ (1) (tsV x0 z1 x2).length _ M0_11.sl (by omega) (by omega)).mono ?_;rintro e w12 ⟨rfl,D3⟩;have W0_12:=W0_11.below D3;have M0_12:=M0_11.below D3;have xi:=BX.trans (D3.mono BX.size);have XE:=D3.size;clear W0_11 M0_11 D3 BX;clear M0_12;have Wb:¬(1+5*((tsV x0 z1 x2).length:Int))<0:=by omega
 have YG:((1+5*((tsV x0 z1 x2).length:Int)) !=(1+5*((tsV x0 z1 x2).length:Int)))=false:=by simp
 go_wp2_with fail
 refine(gH _ z1 _ (C8.below xi) (by omega)).mono ?_;rintro e w13 ⟨rfl,Y_13,BV⟩;have W0_13:=W0_12.below BV;have BY:=xi.trans (BV.mono xi.size);have XF:=BV.size;clear W0_12 BV xi;go_wp2_with fail;refine(iU x0 z1 _ x2 _ Y_13.sl (by omega)).mono ?_;rintro e w14 ⟨Xw,Xx,rfl,H0_14,xf⟩;have W0_14:=W0_13.below xf;have Y_14:=Y_13.below xf;have BZ:=BY.trans (xf.mono BY.size);have XG:=xf.size;clear W0_13 Y_13 xf BY;go_wp2_with fail;refine(gT _ _ (tsV x0 z1 x2) _ H0_14.sl W0_14.sl (by omega)).mono ?_;rintro e w15 ⟨rfl,Cr⟩;have W0_15:=W0_14.below Cr;have Y_15:=Y_14.below Cr;have H0_15:=H0_14.below Cr;have Iz:=BZ.trans (Cr.mono BZ.size);have oe:=Cr.size;clear W0_14 Y_14 H0_14 Cr BZ;clear W0_15 Y_15 H0_15;go_wp2;refine bodyPost_ret (v:=.bool true) (by simp[results,Tryz.results4,go_sem]) rfl ?_;exact⟨rfl,Iz⟩
end Go.Proofs.YtaahkgkdpnnhhaaGreat
namespace Go.Proofs.YtaahkgkdpnnhhaaGreat.fnExactTreeShape
open Go.ChangeShapes Go.WideShapes Go.ChangeAt Go.RowKit
theorem lifted(os:Os)(started:os.Started)(H:Type)(enc:TypeId×Value→H):
  ReturnsInHanded {} Tryz.checked os 4 .any (Rows.fnExactTreeShapeSpec.pre6 enc Tryz.prog Tryz.f4 Rows.fnExactTreeShapeRow.domain false) (Rows.fnExactTreeShapeSpec.post enc Tryz.prog Tryz.f4 false true false false):=by
 refine returnsInHanded_of_change (C:=Tryz.checked) ownQ started (by kernel_rfl) Tryz.func4
  (ChangeSpec.witness6 (enc:=enc) (C:=Tryz.checked) false ⟨#[],#[.int .i64 0,.slice none 0 0,.int .i64 0],[]⟩ 8 (by kernel_rfl) (by kernel_rfl) (by kernel_rfl) (by kernel_rfl)) ?_
 intro W base args ds gs before Hk hW V7 _;have By:∀(j:Nat) t v,Tryz.f4.params[j]?=some t→args[j]?=some v→Value.okWide Tryz.prog W .any base t v:=Hk;have Il:=hW;obtain⟨p,q,So,hV,rfl,Gt,F8⟩:=hW;have hA:DataW.TrodAll enc Tryz.prog W 0 (fun _=>true) true Tryz.f4.params.toList args.toList ds p:=So;rw[Tryz.params4]at hA By;obtain⟨v0,vs0,d0,ds0,p0,q0,TY,rfl,rfl,h0,r0⟩:=trodAll_cons hA;obtain⟨v1,vs1,d1,ds1,p1,q1,rfl,rfl,rfl,h1,r1⟩:=trodAll_cons r0;obtain⟨v2,vs2,d2,ds2,p2,q2,rfl,rfl,rfl,h2,r2⟩:=trodAll_cons r1;obtain⟨rfl,rfl,rfl⟩:=trodAll_nil r2;obtain rfl:args=#[v0,v1,v2]:=by cases args;simp_all
 obtain⟨rfl,rfl⟩:=trodVars_none hV;obtain⟨x0,rfl,rfl,rfl,w0⟩:=open_int Tryz.underlying2 (By 0 2 v0 rfl rfl) h0;have k1:=h1;have lt1:∀x∈p1,x.block<W.heap.size:=by obtain⟨m,hm⟩:=k1;exact DataW.trod_lt m _ _ _ hm
 obtain⟨a1,c1,z1,rfl,nm,ao,fz⟩:=aJT (By 1 22 v1 rfl rfl) h1;obtain⟨x2,rfl,rfl,rfl,w2⟩:=open_int Tryz.underlying2 (By 2 2 v2 rfl rfl) h2;clear So Hk;refine(tO x0 a1 c1 z1 x2 W ao nm fz).mono fun e W' ⟨he,bel⟩=>?_;subst he;exact⟨_,rfl,_,_,_,[],_,[],Il,trodAll_mk1 (shut_bool Tryz.underlying4 _),(trodAll_cons_mk (shut_int Tryz.underlying2 w0) (trodAll_cons_mk (Below.trod laidOut (by kernel_rfl) (of_decide_eq_true (by kernel_rfl)) k1 bel lt1) (trodAll_cons_mk (shut_int Tryz.underlying2 w2) trodAll_mk0))),rfl,bel.frame _,fun h=>by cases h⟩
theorem over:Rows.fnExactTreeShapeRow.holds Tryz.pinned (OpenSpec.ofChange Rows.fnExactTreeShapeSpec):=
 OpenClaim.holds_of_wide 4 Tryz.f4 rfl rfl rfl rfl rfl rfl rfl ⟨rfl,rfl,rfl,rfl,rfl⟩ rfl rfl rfl rfl rfl (by kernel_rfl) Tryz.func4 (by kernel_rfl)
  (of_decide_eq_true (by kernel_rfl)) (by unfold Func.isWrapper;first | (rw[if_pos (by decide +kernel)];kernel_rfl) | (rw[if_neg (by decide +kernel)];exact⟨rfl,rfl⟩))
  (fun os started H enc _=>lifted os started H enc)
theorem proved:Rows.FnExactTreeShapeSaid:=over
