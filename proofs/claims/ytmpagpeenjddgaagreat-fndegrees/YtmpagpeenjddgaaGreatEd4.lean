import Derived.Test.YtmpagpeenjddgaaGreatRt1
set_option maxHeartbeats 9999999
set_option maxRecDepth 99999
set_option linter.all false
namespace Go.Proofs.YtmpagpeenjddgaaGreat
open Go.RowKit Fo
theorem zT(l:List TO)(a:List An):∀i,(mI l a i).length<=i+1
 | 0=>by simp[mI]
 | i+1=>by
  have h:=zT l a i;unfold mI xE;split
  ·omega
  ·split
   ·simp;omega
   ·split
    ·exact lT (List.length_filter_le _ _) (by omega)
    ·omega
theorem zF(l:List Int)(t:Int){k:Nat}(a:k<l.length):(l.take (k+1)).filter (fun x=>decide (x≠t))=if l.getD k 0=t then(l.take k).filter (fun x=>decide (x≠t))else(l.take k).filter (fun x=>decide (x≠t))++[l.getD k 0]:=by
 rw[cO l k 0 a,List.filter_append,List.filter_cons,List.filter_nil];generalize l.getD k 0=x;by_cases e:x=t<;>simp[e]
theorem zQ(base g:Nat)(a:Option Addr)(c:Nat)(zs:List Int)(p:St2)(H:Int)(h0:0<H)(h1:H<=600000)(w:World)(hs:dQ base g a c zs p w):
  Calls Tryz.prog 27 #[pT g 0,iV H] w fun e w'=>∃u,e=.returned u/\yO.Own w.heap.size w' u (doR zs p H).1/\dQ base g a c zs (doR zs p H).2 w'/\Frm (·=g) w w':=by
 have vm:=hs.lt;have HL:Hid (yO.Own w.heap.size (w.alloc (.cells #[] 33)) (sL w.heap.size 0 0 0) []):=Ely.Own.lit _ _ (nR _) _ rfl;have HR:Hid (doR zs p H=yZ zs (nxV zs (nxS zs p) 4) (4+nxV zs p H).toNat (4+nxV zs p H).toNat 1 [] (nxS zs (nxS zs p))):=rfl;have hv:=bW zs p (n:=H) h0 (by omega);have ci:=bW zs (nxS zs p) (n:=4) (by decide) (by decide);generalize doR zs p H=R at *;go_enter Tryz.func27,Tryz.ntmps27;go_wp2_with fail;refine(bA base g a c zs p H h0 (by omega) _ (hs.below (eU _ _))).mono ?_;rintro e w1 ⟨rfl,d8,qz⟩;obtain⟨n,hn⟩:∃n:Nat,4+nxV zs p H=(n:Int):=⟨(4+nxV zs p H).toNat,by omega⟩;have O6:IntKind.i64.wrap (4+nxV zs p H)=(n:Int):=by rw[hn];exact IntWalk.i64_in _ ⟨by omega,by omega⟩
 have ZX:n<=600004:=by omega
 rw[hn,Int.toNat_natCast]at HR;clear hn;generalize nxV zs p H=v at *;go_wp2_with fail;refine(bA base g a c zs _ 4 (by decide) (by decide) _ d8).mono ?_;rintro e w2 ⟨rfl,ju,mr⟩;generalize nxV zs (nxS zs p) 4=f at *;generalize nxS zs (nxS zs p)=p2 at *;have ly:Hid (yO.Own w.heap.size w2 (sL w.heap.size 0 0 0) []/\dQ base g a c zs p2 w2/\Frm (·=g) w w2):=⟨(HL.out.ae qz fun r hr q=>by omega).ae mr fun r hr q=>by omega,ju,((Frm.alloc _ _ _).trans qz).trans mr⟩;clear HL hs d8 ju qz mr hv;go_wp2_with fail;go_loopw [5,8,9,10,11,12] (fun ov idv i _ _ _ wr=>∃(l:List TO) (d:Int) (q:St2) (m:Nat),l.length+m=n/\i=iV l.length/\idv=iV d/\1<=d/\d<=l.length+1/\Hid (R=yZ zs f n m d l q)/\yO.Own w.heap.size wr ov l/\dQ base g a c zs q wr/\Frm (·=g) w wr) (fun _ _ i _ _ _ _=>n -(intOf i).toNat)
 case atStart=>exact⟨[],1,p2,n,by simp,rfl,rfl,by omega,by simp,HR,ly.out.1,ly.out.2.1,ly.out.2.2⟩
 case round=>
  obtain⟨l,d,q,m,hm,rfl,rfl,N,AW,HQ,hO,hS,hF⟩:=hrel;clear ly HR;cases m with
  | zero=>
   obtain rfl:l.length=n:=by omega
   have hE:R=(l,q):=HQ.out;have jl:¬(l.length:Int) <(l.length:Int):=by omega
   subst hE;go_wp2;go_ret;exact⟨_,rfl,hO,hS,hF⟩
  | succ m=>
   have jl:(l.length:Int) <(n:Int):=by omega
   obtain⟨ra,y,rfl,Ek,DJ⟩:=hO;have v1:=bW zs q (n:=d) (by omega) (by omega);have v2:=bW zs (nxS zs q) (n:=3) (by decide) (by decide);have v3:=bW zs (nxS zs (nxS zs q)) (n:=40) (by decide) (by decide);have v4:=bW zs (nxS zs (nxS zs (nxS zs q))) (n:=100) (by decide) (by decide);have HO:Hid (opR zs f n d l q=aPG zs f n d l (opT zs q d) (nxV zs (nxS zs (nxS zs (nxS zs q))) 100) (dkR zs (nxS zs (nxS zs (nxS zs (nxS zs q))))).2 (dkR zs (nxS zs (nxS zs (nxS zs (nxS zs q))))).1):=rfl;have Uf:Hid (R=yZ zs f n m (opR zs f n d l q).2.2 (l++[(opR zs f n d l q).1]) (opR zs f n d l q).2.1):=HQ.out;have HT:Hid (opT zs q d=if nxV zs (nxS zs (nxS zs q)) 40=0 then d else if 0<nxV zs (nxS zs q) 3 then 0 else nxV zs q d):=rfl;clear HQ;generalize opR zs f n d l q=OP at *;generalize opT zs q d=tree at *;have HW:Hid (yO.Rw wr ra l y/\(∀r,ra=some r->w.heap.size<=r)/\Frm (·=g) w wr):=⟨Ek,DJ,hF⟩;clear Ek DJ hF;go_wp2_with fail;refine(bA base g a c zs q d (by omega) (by omega) _ hS).mono ?_;rintro e w3 ⟨rfl,vq,Di⟩;go_wp2_with fail;refine(bA base g a c zs _ 3 (by decide) (by decide) _ vq).mono ?_;rintro e w4 ⟨rfl,vt,GA⟩;generalize nxV zs q d=t0 at *;generalize nxV zs (nxS zs q) 3=t1 at *;obtain⟨V,HT1⟩:∃x,Hid ((if 0<t1 then 0 else t0)=x):=⟨_,rfl⟩;go_upto_if 30 with fail
   go_cut [10] (fun s10 E=>s10=iV V/\E=w4)
   case first=>as_aux_lemma=>
    by_cases hb:0<t1
    ·obtain rfl:0=V:=by rw[<-HT1.out,if_pos hb]
     go_wp2
     go_meet
     exact⟨rfl,rfl⟩
    ·obtain rfl:t0=V:=by rw[<-HT1.out,if_neg hb]
     go_wp2
     go_meet
     exact⟨rfl,rfl⟩
   case rest=>as_aux_lemma=>
    obtain⟨rfl,rfl⟩:=hcut;go_wp2_with fail;refine(bA base g a c zs _ 40 (by decide) (by decide) _ vt).mono ?_;rintro e w5 ⟨rfl,GI,pa⟩;generalize nxV zs (nxS zs (nxS zs q)) 40=t2 at *;have D3:Hid (tree=if t2=0 then d else V):=by show tree=_;rw[HT.out,HT1.out]
    clear HT HT1;go_upto_if 33 with fail
    go_cut [10] (fun s10 E=>s10=iV tree/\E=w5)
    case first=>as_aux_lemma=>
     by_cases hb:t2=0
     ·have hx:tree=d:=by rw[D3.out,if_pos hb]
      clear D3;subst hx;go_wp2;go_meet;exact⟨rfl,rfl⟩
     ·have hx:tree=V:=by rw[D3.out,if_neg hb]
      clear D3;subst hx;go_wp2;go_meet;exact⟨rfl,rfl⟩
    case rest=>as_aux_lemma=>
     obtain⟨rfl,rfl⟩:=hcut;clear D3;go_wp2_with fail;refine(bA base g a c zs _ 100 (by decide) (by decide) _ GI).mono ?_;rintro e w6 ⟨rfl,Iv,N4⟩;generalize nxV zs (nxS zs (nxS zs (nxS zs q))) 100=O at *;generalize nxS zs (nxS zs (nxS zs (nxS zs q)))=p4 at *;go_wp2_with fail;refine(zP base g a c zs p4 _ Iv).mono ?_;rintro e w7 ⟨rfl,WU,V2⟩;have gz:=aII zs p4;generalize (dkR zs p4).1=key at *;generalize (dkR zs p4).2=p5 at *;have xr:Frm (·=g) wr w7:=(((Di.trans GA).trans pa).trans N4).trans V2;have hB:DoB base g a c zs w w7.heap.size ra l y p5 (1,tree,key,{data:=#[]}) (w7.alloc (.cells #[iV 1,iV tree,.string key,.string {data:=#[]}] 33)):=by
      have hz:=xr.size;have Ae:=HW.out.2.2.size;have yj:yO.Rw w7 ra l y:=HW.out.1.ae xr fun r e q=>by have:=HW.out.2.1 r e;omega
      exact⟨WU.below (eU _ _),yj.ae (S:=fun _=>False) (Frm.alloc _ _ _) fun _ _=>id,IsC.new _ _ _,(HW.out.2.2.trans xr).trans (Frm.alloc _ _ _),vm,by omega,fun r e=>⟨HW.out.2.1 r e,by have:=(yj.arr r e).lt;omega⟩⟩
     clear vq vt GI Iv Di GA pa N4 V2 xr HW hS;have v5:=bW zs p5 (n:=26) (by decide) (by decide);go_wp2_with fail;refine(bA base g a c zs p5 26 (by decide) (by decide) _ hB.src).mono ?_;rintro e w8 ⟨rfl,Dp,MG⟩;have IF:=hB.next Dp MG;generalize w7.heap.size=B0 at *;have e1:((l.length:Nat):Int).tmod 26=(l.length:Int) % 26:=Int.tmod_eq_emod_of_nonneg (by omega);have e2:IntKind.i64.wrap ((l.length:Int) % 26)=(l.length:Int) % 26:=IntWalk.i64_in _ ⟨by omega,by omega⟩;have e3:IntKind.i64.wrap (97+(l.length:Int) % 26)=97+(l.length:Int) % 26:=IntWalk.i64_in _ ⟨by omega,by omega⟩;have e4:IntKind.u8.wrap (97+(l.length:Int) % 26)=97+(l.length:Int) % 26:=IntWalk.u8_in _ ⟨by omega,by omega⟩;have UZ:Hid (OP=opB zs f d l (nxS zs p5) (aGD f n l.length (aGC f O)) tree (opY f O l.length key) (txB [65+nxV zs p5 26,97+(l.length:Int) % 26])):=HO.out;generalize nxV zs p5 26=Z at *;generalize nxS zs p5=t at *;have e5:IntKind.i64.wrap (65+Z)=65+Z:=IntWalk.i64_in _ ⟨by omega,by omega⟩;have e6:IntKind.u8.wrap (65+Z)=65+Z:=IntWalk.u8_in _ ⟨by omega,by omega⟩;have hc:=rQ w8 (65+Z) (97+(l.length:Int) % 26) (by omega) (by omega) w8.heap.size rfl;have hvz:(txB [65+Z,97+(l.length:Int) % 26]).size=2:=lO _;generalize txB [65+Z,97+(l.length:Int) % 26]=val at *;have Fm:=IF.bq (eU w8 (.cells #[.int .u8 (65+Z),.int .u8 (97+(l.length:Int) % 26)] 5));have GS:Hid (DoB base g a c zs w B0 ra l y t (1,tree,key,val) ((w8.alloc (.cells #[.int .u8 (65+Z),.int .u8 (97+(l.length:Int) % 26)] 5)).setCell (aD B0 3) (.string val))):=Fm.put 3 (.string val) (1,tree,key,val) rfl;obtain⟨_,_,_,Y,_,_,_,f3⟩:=Fm.cells;clear hB IF Fm Dp MG WU HO;go_upto_region 16 with fail
     generalize (w8.alloc (.cells #[.int .u8 (65+Z),.int .u8 (97+(l.length:Int) % 26)] 5)).setCell (aD B0 3) (.string val)=w9 at *;clear e1 e2 e3 e4 e5 e6 hc Y f3;obtain⟨U,ao⟩:∃U:Bool,decide (f=1/\O<70)=U:=⟨_,rfl⟩;go_cut [57] (fun s57 E=>s57=.bool U/\E=w9)
     case first=>as_aux_lemma=>
      by_cases z:f=1
      ·by_cases D:O<70
       ·have:U=true:=by rw[<-ao];simp[z,D]
        subst this;have q1b:(f == 1)=true:=by simp[z]
        clear ao z;go_wp2;go_meet;exact⟨rfl,rfl⟩
       ·have:U=false:=by rw[<-ao];simp[z,D]
        subst this;have q1b:(f == 1)=true:=by simp[z]
        clear ao z;go_wp2;go_meet;exact⟨rfl,rfl⟩
      ·have:U=false:=by rw[<-ao];simp[z]
       subst this;clear ao;go_wp2;go_meet;exact⟨rfl,rfl⟩
     case rest=>as_aux_lemma=>
      obtain⟨rfl,rfl⟩:=hcut;have EN:Hid (aGC f O=if U=true then 0 else O):=by show aGC f O=_;rw[<-ao];unfold aGC;simp
      have IB:Hid (opY f O l.length key=if U=true then ris l.length else key):=by show opY f O l.length key=_;rw[<-ao];unfold opY;simp
      clear ao;generalize aGC f O=J at *;generalize opY f O l.length key=s at *;go_upto_if 57 with fail
      go_cut [11] (fun s11 E=>s11=iV J/\DoB base g a c zs w B0 ra l y t (1,tree,s,val) E)
      case first=>as_aux_lemma=>
       cases U with
       | true=>
        have r1:J=0:=EN.out;have r2:s=ris l.length:=IB.out;clear EN IB;subst r1 r2;go_wp2_with fail;refine(jY l.length (by omega) (by omega) _).mono ?_;rintro e w10 ⟨rfl,we⟩;have CD:=GS.out.bq we;obtain⟨_,_,X,_,_,_,f2,_⟩:=CD.cells;have QO:=CD.put 2 (.string (ris l.length)) (1,tree,ris l.length,val) rfl;clear CD;go_wp2;go_meet;exact⟨rfl,QO⟩
       | false=>
        have r1:J=O:=EN.out;have r2:s=key:=IB.out;clear EN IB;subst r1 r2;go_wp2;go_meet;exact⟨rfl,GS.out⟩
      case rest=>as_aux_lemma=>
       obtain⟨rfl,DQ⟩:=hcut;have G:Hid (DoB base g a c zs w B0 ra l y t (1,tree,s,val) wc):=DQ;have e1:((n:Nat):Int).tdiv 2=(n:Int) / 2:=Int.tdiv_eq_ediv_of_nonneg (by omega);have e2:IntKind.i64.wrap ((n:Int) / 2)=(n:Int) / 2:=IntWalk.i64_in _ ⟨by omega,by omega⟩;have ie:0<=J/\J<100:=by rcases Bool.eq_false_or_eq_true U with q | q<;>rw[EN.out,q]<;>simp<;>omega
       have QF:s.size<=12:=by
        have:=aJY l.length
        rcases Bool.eq_false_or_eq_true U with q | q<;>rw[IB.out,q]<;>simp<;>omega
       clear EN IB GS DQ;go_upto_region 19 with fail
       obtain⟨X,be⟩:∃X:Bool,decide (f=3/\(n:Int) / 2<l.length)=X:=⟨_,rfl⟩;go_cut [68] (fun s68 E=>s68=.bool X/\E=wc)
       case first=>as_aux_lemma=>
        by_cases z:f=3
        ·by_cases D:(n:Int) / 2<l.length
         ·have:X=true:=by rw[<-be];simp[z,D]
          subst this;have q1b:(f == 3)=true:=by simp[z]
          clear be z;go_wp2;go_meet;exact⟨rfl,rfl⟩
         ·have:X=false:=by rw[<-be];simp[z,D]
          subst this;have q1b:(f == 3)=true:=by simp[z]
          clear be z;go_wp2;go_meet;exact⟨rfl,rfl⟩
        ·have:X=false:=by rw[<-be];simp[z]
         subst this;clear be;go_wp2;go_meet;exact⟨rfl,rfl⟩
       case rest=>as_aux_lemma=>
        obtain⟨rfl,rfl⟩:=hcut;have H8:Hid (aGD f n l.length J=if X=true then J+30 else J):=by show aGD f n l.length J=_;rw[<-be];unfold aGD;simp
        clear be e1 e2;generalize aGD f n l.length J=k at *;have ZM:IntKind.i64.wrap (J+30)=J+30:=IntWalk.i64_in _ ⟨by omega,by omega⟩;go_upto_if 68 with fail
        go_cut [11] (fun s11 E=>s11=iV k/\E=wc)
        case first=>as_aux_lemma=>
         cases X with
         | true=>
          have r1:k=J+30:=H8.out;clear H8;subst r1;go_wp2;go_meet;exact⟨rfl,rfl⟩
         | false=>
          have r1:k=J:=H8.out;clear H8;subst r1;go_wp2;go_meet;exact⟨rfl,rfl⟩
        case rest=>as_aux_lemma=>
         obtain⟨rfl,rfl⟩:=hcut;have AX:0<=k/\k<130:=by rcases Bool.eq_false_or_eq_true X with q | q<;>rw[H8.out,q]<;>simp<;>omega
         clear H8 ZM;go_upto_region 21 with fail
         obtain⟨Y,M⟩:∃Y:Bool,decide (55<=k/\k<75\/100<=k)=Y:=⟨_,rfl⟩;go_cut [80] (fun s80 E=>s80=.bool Y/\E=wc)
         case first=>as_aux_lemma=>
          by_cases z:55<=k
          ·by_cases D:k<75
           ·have:Y=true:=by rw[<-M];simp[z,D]
            subst this;clear M;go_wp2;go_meet;exact⟨rfl,rfl⟩
           ·by_cases q3:100<=k
            ·have:Y=true:=by rw[<-M];simp[q3]
             subst this;clear M;go_wp2;go_meet;exact⟨rfl,rfl⟩
            ·have:Y=false:=by rw[<-M];simp[D,q3]
             subst this;clear M;go_wp2;go_meet;exact⟨rfl,rfl⟩
          ·have q3:¬100<=k:=by omega
           have:Y=false:=by rw[<-M];simp[z,q3]
           subst this;clear M;go_wp2;go_meet;exact⟨rfl,rfl⟩
         case rest=>as_aux_lemma=>
          obtain⟨rfl,rfl⟩:=hcut;go_upto_if 80 with fail
          go_cut [8] (fun s8 E=>∃(o:TO) (p':St2) (B:Int),s8=iV B/\1<=B/\B<=l.length+2/\Hid (opB zs f d l t k tree s val=(o,p',B))/\DoB base g a c zs w B0 ra l y p' o E)
          case first=>as_aux_lemma=>
           cases Y with
           | true=>
            have I:55<=k/\k<75\/100<=k:=of_decide_eq_true M;have Q:Hid (opB zs f d l t k tree s val=if nxV zs t 2=0/\0<l.length then((2,tree,(l.getD (nxV zs (nxS zs t) l.length).toNat yO.z).2.2.1,val),nxS zs (nxS zs t),d)else((2,tree,s,val),nxS zs t,d)):=by show opB zs f d l t k tree s val=_;unfold opB;rw[if_pos I]
            clear M I;obtain⟨c0,_,_,_,f0,_⟩:=G.out.cells;have T:=toHid' (G.out.put 0 (iV 2) (2,tree,s,val) rfl);have v6:=bW zs t (n:=2) (by decide) (by decide);go_wp2_with fail;refine(bA base g a c zs t 2 (by decide) (by decide) _ T.out.src).mono ?_;rintro e w10 ⟨rfl,ry,zu⟩;have K:=T.out.next ry zu;generalize nxV zs t 2=C at *;obtain⟨b6,nk⟩:∃b6:Bool,(C == 0)=b6:=⟨_,rfl⟩;by_cases z:C=0
            ·by_cases D:0<l.length
             ·have q2i:(0:Int) <(l.length:Int):=by omega
              have A:=toHid' (Q.out.trans (if_pos ⟨z,D⟩));have:b6=true:=by rw[<-nk];simp[z]
              subst this;have v7:=bW zs (nxS zs t) (n:=l.length) (by omega) (by omega);clear Q z;go_wp2_with fail;refine(bA base g a c zs (nxS zs t) l.length (by omega) (by omega) _ K.src).mono ?_;rintro e w11 ⟨rfl,FT,FC⟩;have GZ:=K.next FT FC;obtain⟨j,hj⟩:∃j:Nat,nxV zs (nxS zs t) l.length=(j:Int):=⟨(nxV zs (nxS zs t) l.length).toNat,by omega⟩;rw[hj,Int.toNat_natCast]at A;rw[hj]at v7 |-;obtain⟨r,hr,AX⟩:=GZ.key D (j:=j) (by omega);have uq:(j:Int) <(l.length:Int):=v7.2;rw[hr];obtain⟨_,_,c2,_,_,_,f2,_⟩:=GZ.cells;have QU:=toHid' (GZ.put 2 (.string (l.getD j yO.z).2.2.1) (2,tree,(l.getD j yO.z).2.2.1,val) rfl);generalize (l.getD j yO.z).2.2.1=kk at *;clear K GZ hj;go_wp2;rw[<-hr];go_meet;exact⟨_,_,_,rfl,N,by omega,A,QU.out⟩
             ·have q2i:¬(0:Int) <(l.length:Int):=by omega
              have A:=toHid' (Q.out.trans (if_neg fun q=>D q.2));have:b6=true:=by rw[<-nk];simp[z]
              subst this;clear Q z;go_wp2;go_meet;exact⟨_,_,_,rfl,N,by omega,A,K⟩
            ·have A:=toHid' (Q.out.trans (if_neg fun q=>z q.1))
             have:b6=false:=by rw[<-nk];simp[z]
             subst this;clear Q;go_wp2;go_meet;exact⟨_,_,_,rfl,N,by omega,A,K⟩
           | false=>
            have I:¬(55<=k/\k<75\/100<=k):=of_decide_eq_false M;clear M;go_upto_region 25 with fail
            obtain⟨b4,it⟩:∃b4:Bool,decide (75<=k/\k<81\/f=2/\k<12/\0<k)=b4:=⟨_,rfl⟩;go_cut [114] (fun s114 E=>s114=.bool b4/\E=wc)
            case first=>as_aux_lemma=>
             obtain⟨b5,gi⟩:∃b5:Bool,(f == 2)=b5:=⟨_,rfl⟩;have Ew:b4=(decide (75<=k) && decide (k<81) || b5 && decide (k<12) && decide (0<k)):=by
              rw[<-it,<-gi];by_cases x:f=2<;>simp[x,Bool.decide_or,Bool.decide_and,Bool.and_assoc]
             clear it;by_cases x1:75<=k<;>by_cases x2:k<81<;>by_cases x4:k<12<;>by_cases x5:0<k<;>cases b5
             all_goals
              first
               | (exfalso;omega)
               | (simp[x1,x2,x4,x5]at Ew;subst Ew;go_wp2;go_meet;exact⟨rfl,rfl⟩)
            case rest=>as_aux_lemma=>
             obtain⟨rfl,rfl⟩:=hcut;cases b4 with
             | true=>
              have L:75<=k/\k<81\/f=2/\k<12/\0<k:=of_decide_eq_true it;have A:Hid (opB zs f d l t k tree s val=((3,tree,s,val),t,d+1)):=by show opB zs f d l t k tree s val=_;unfold opB;rw[if_neg I,if_pos L]
              obtain⟨c0,_,_,_,f0,_⟩:=G.out.cells;have T:=toHid' (G.out.put 0 (iV 3) (3,tree,s,val) rfl);have hwi:IntKind.i64.wrap (d+1)=d+1:=IntWalk.i64_in _ ⟨by omega,by omega⟩;clear it L I;go_wp2;go_meet;exact⟨_,_,_,rfl,by omega,by omega,A,T.out⟩
             | false=>
              have L:¬(75<=k/\k<81\/f=2/\k<12/\0<k):=of_decide_eq_false it;have F:Hid (opB zs f d l t k tree s val=_):=(if_neg I).trans (if_neg L);obtain⟨c0,c1,c2,c3,f0,f1,f2,f3⟩:=G.out.cells;clear it;by_cases r1:k<81
              ·have x0:¬81<=k:=by omega
               have x1:¬84<=k:=by omega
               have x2:¬91<=k:=by omega
               have x3:¬k=97:=by omega
               have x4:¬k=98:=by omega
               have x5:¬k=99:=by omega
               have A:Hid (opB zs f d l t k tree s val=((1,tree,s,val),t,d)):=by show opB zs f d l t k tree s val=_;rw[F.out,if_neg (by omega),if_neg (by omega),if_neg (by omega),if_neg x3,if_neg x4,if_neg x5]
               clear F I L r1;go_wp2;go_meet;exact⟨_,_,_,rfl,N,by omega,A,G.out⟩
              ·have x0:81<=k:=by omega
               by_cases r2:k<84
               ·have A:Hid (opB zs f d l t k tree s val=((4,nxV zs t d,s,val),nxS zs t,d)):=by show opB zs f d l t k tree s val=_;rw[F.out,if_pos ⟨x0,r2⟩]
                have T:=toHid' (G.out.put 0 (iV 4) (4,tree,s,val) rfl);clear F I L;go_wp2_with fail;refine(bA base g a c zs t d (by omega) (by omega) _ T.out.src).mono ?_;rintro e w10 ⟨rfl,ry,zu⟩;have K:=T.out.next ry zu;generalize nxV zs t d=C at *;obtain⟨_,d1,_,_,_,g1,_⟩:=K.cells;have Me:=toHid' (K.put 1 (iV C) (4,C,s,val) rfl);clear K;go_wp2;go_meet;exact⟨_,_,_,rfl,N,by omega,A,Me.out⟩
               ·have x1:84<=k:=by omega
                by_cases r3:k<91
                ·have A:Hid (opB zs f d l t k tree s val=((5,tree,s,val),t,d)):=by show opB zs f d l t k tree s val=_;rw[F.out,if_neg (by omega),if_pos ⟨x1,r3⟩]
                 have T:=toHid' (G.out.put 0 (iV 5) (5,tree,s,val) rfl);clear F I L;go_wp2;go_meet;exact⟨_,_,_,rfl,N,by omega,A,T.out⟩
                ·have x2:91<=k:=by omega
                 by_cases r4:k<97
                 ·have Q:Hid (opB zs f d l t k tree s val=if 0<l.length then((6,tree,(l.getD (nxV zs t l.length).toNat yO.z).2.2.1,val),nxS zs t,d)else((6,tree,s,val),t,d)):=by show opB zs f d l t k tree s val=_;rw[F.out,if_neg (by omega),if_neg (by omega),if_pos ⟨x2,r4⟩]
                  have JY:=G.out.put 0 (iV 6) (6,tree,s,val) rfl;clear F I L;by_cases D:0<l.length
                  ·have q2i:(0:Int) <(l.length:Int):=by omega
                   have A:=toHid' (Q.out.trans (if_pos D));have v7:=bW zs t (n:=l.length) (by omega) (by omega);clear Q;go_wp2_with fail;refine(bA base g a c zs t l.length (by omega) (by omega) _ JY.src).mono ?_;rintro e w11 ⟨rfl,FT,FC⟩;have GZ:=JY.next FT FC;obtain⟨j,hj⟩:∃j:Nat,nxV zs t l.length=(j:Int):=⟨(nxV zs t l.length).toNat,by omega⟩;rw[hj,Int.toNat_natCast]at A;rw[hj]at v7 |-;obtain⟨r,hr,AX⟩:=GZ.key D (j:=j) (by omega);have uq:(j:Int) <(l.length:Int):=v7.2;rw[hr];obtain⟨_,_,d2,_,_,_,g2,_⟩:=GZ.cells;have QU:=toHid' (GZ.put 2 (.string (l.getD j yO.z).2.2.1) (6,tree,(l.getD j yO.z).2.2.1,val) rfl);generalize (l.getD j yO.z).2.2.1=kk at *;clear GZ JY hj;go_wp2;rw[<-hr];go_meet;exact⟨_,_,_,rfl,N,by omega,A,QU.out⟩
                  ·have q2i:¬(0:Int) <(l.length:Int):=by omega
                   have A:=toHid' (Q.out.trans (if_neg D));have T:=toHid' JY;clear Q JY;go_wp2;go_meet;exact⟨_,_,_,rfl,N,by omega,A,T.out⟩
                 ·by_cases r5:k=97
                  ·have r5b:(k == 97)=true:=by simp[r5]
                   have A:Hid (opB zs f d l t k tree s val=((nxV zs t 10-2,tree,s,val),nxS zs t,d)):=by show opB zs f d l t k tree s val=_;rw[F.out,if_neg (by omega),if_neg (by omega),if_neg (by omega),if_pos r5]
                   have v7:=bW zs t (n:=10) (by decide) (by decide);clear F I L r5;go_wp2_with fail;refine(bA base g a c zs t 10 (by decide) (by decide) _ G.out.src).mono ?_;rintro e w11 ⟨rfl,FT,FC⟩;have K:=G.out.next FT FC;generalize nxV zs t 10=C at *;have so:IntKind.i64.wrap (C-2)=C-2:=IntWalk.i64_in _ ⟨by omega,by omega⟩;obtain⟨d0,_,_,_,g0,_⟩:=K.cells;have Me:=toHid' (K.put 0 (iV (C-2)) (C-2,tree,s,val) rfl);clear K;go_wp2;go_meet;exact⟨_,_,_,rfl,N,by omega,A,Me.out⟩
                  ·by_cases r6:k=98
                   ·have r6b:(k == 98)=true:=by simp[r6]
                    have A:Hid (opB zs f d l t k tree s val=((1,tree,s++s98,val),t,d)):=by show opB zs f d l t k tree s val=_;rw[F.out,if_neg (by omega),if_neg (by omega),if_neg (by omega),if_neg r5,if_pos r6]
                    have QC:s98.size=11:=rfl;have ro:∀W:World,(Op.stringOp .add s s98).run Tryz.prog W=.ok (.string (s++s98)) W:=fun W=>run_string_add_sum (P:=Tryz.prog) (w:=W) s s98 (by omega);have Me:=toHid' (G.out.put 2 (.string (s++s98)) (1,tree,s++s98,val) rfl);clear F I L r6;go_wp2;go_meet;exact⟨_,_,_,rfl,N,by omega,A,Me.out⟩
                   ·by_cases r7:k=99
                    ·have r7b:(k == 99)=true:=by simp[r7]
                     have A:Hid (opB zs f d l t k tree s val=((1,tree,s,s99++val.extract 0 (nxV zs t 2).toNat),nxS zs t,d)):=by show opB zs f d l t k tree s val=_;rw[F.out,if_neg (by omega),if_neg (by omega),if_neg (by omega),if_neg r5,if_neg r6,if_pos r7]
                     clear F I L r7;have v7:=bW zs t (n:=2) (by decide) (by decide);have DN:Hid (∀W:World,Bl wc W->W.heap=wc.heap->Calls Tryz.prog 28 #[pT g 0,iV 2] W fun e w'=>e=.returned (iV (nxV zs t 2))/\DoB base g a c zs w B0 ra l y (nxS zs t) (1,tree,s,val) w'):=fun W hW _=>
                      (bA base g a c zs t 2 (by decide) (by decide) W (G.out.bq hW).src).mono fun e w' ⟨z,D,q3⟩=>⟨z,(G.out.bq hW).next D q3⟩
                     generalize nxV zs t 2=C at *;have h2:C<=(val.size:Int):=by omega
                     have af:(val.extract 0 C.toNat).size=C.toNat:=by rw[ByteArray.size_extract];omega
                     have QC:s99.size=10:=rfl;have ro:∀W:World,(Op.stringOp .add s99 (val.extract 0 C.toNat)).run Tryz.prog W=.ok (.string (s99++val.extract 0 C.toNat)) W:=fun W=>run_string_add_sum (P:=Tryz.prog) (w:=W) s99 (val.extract 0 C.toNat) (by omega);have sa:Hid (∀W:World,DoB base g a c zs w B0 ra l y (nxS zs t) (1,tree,s,val) W->∀W',Bl W W'->DoB base g a c zs w B0 ra l y (nxS zs t) (1,tree,s,s99++val.extract 0 C.toNat) (W'.setCell (aD B0 3) (.string (s99++val.extract 0 C.toNat)))):=fun W h W' h'=>(h.bq h').put 3 _ _ rfl;go_upto_region 42 with fail
                     have Qy:=toHid' (DN.out wc.drew ⟨rfl,rfl,rfl,nR _,fun _ _=>rfl⟩ rfl);go_region_with (go_at_call 28;refine Qy.out.mono ?_;rintro e w11 ⟨rfl,DQ⟩;obtain⟨_,_,_,d3,_,_,_,g3⟩:=DQ.cells;have QP:=toHid' DQ;clear DQ)
                     all_goals
                      go_wp2
                      go_meet
                      exact⟨_,_,_,rfl,N,by omega,A,sa.out _ QP.out _ ⟨rfl,rfl,rfl,nR _,fun _ _=>rfl⟩⟩
                    ·have A:Hid (opB zs f d l t k tree s val=((1,tree,s,val),t,d)):=by show opB zs f d l t k tree s val=_;rw[F.out,if_neg (by omega),if_neg (by omega),if_neg (by omega),if_neg r5,if_neg r6,if_neg r7]
                     clear F I L;go_wp2;go_meet;exact⟨_,_,_,rfl,N,by omega,A,G.out⟩
          case rest=>as_aux_lemma=>
           obtain⟨o,p',B,rfl,P7,hj2,Ua,JZ⟩:=hcut;have HE:Hid (R=yZ zs f n m B (l++[o]) p'):=by show R=_;rw[Uf.out,UZ.out,Ua.out]
           obtain⟨c0,c1,c2,c3,_⟩:=JZ.cells;have IN:yO.Own w.heap.size wc (.slice (adr ra) l.length (l.length+y.length)) l:=⟨ra,y,rfl,JZ.row,fun r e=>(JZ.ne r e).1⟩;have aw:=JZ.ae.size;have Lt:Hid (dQ base g a c zs p' wc/\Frm (·=g) w wc):=⟨JZ.src,JZ.ae⟩;clear JZ G Uf UZ Ua;go_wp2_with (first | (at_builtin;refine yO.av rfl _ _ rfl IN rfl o rfl rfl (by omega) aw ?_;intro v' w12 ax bp zw));have LC:=Lt.out.1.lo;refine⟨⟨l++[o],B,p',m,by simp;omega,by simp,rfl,P7,by simp;omega,HE,ax,Lt.out.1.ae zw (fun q=>by omega) (fun b q=>by omega),?_⟩,by simp[intOf];omega⟩;exact((Lt.out.2.wide (S':=fun k=>k=g\/w.heap.size<=k) fun k _ q=>.inl q).trans (zw.wide fun k _ q=>.inr q.1)).wide fun k hk q=>q.elim id fun q=>by omega
abbrev rgR:ByteArray:={data:=#[114]}
abbrev rgS:ByteArray:={data:=#[115]}
abbrev rgE:ByteArray:={data:=#[]}
def xP:Nat->List TO
 | 0=>[]
 | i+1=>xP i++[(1,0,ris i,rgR)]
theorem aAF(n:Nat):(xP n).length=n:=by
 induction n with
 | zero=>rfl
 | succ n ih=>simp[xP,ih]
def uZ(zs:List Int)(r n:Int):Nat->Int->List TO->St2->List TO×St2
 | 0,_,l,q=>(l,q)
 | m+1,i,l,q=>if i<n then uZ zs r n m (i+5+nxV zs (nxS zs q) 8) (l++[(if nxV zs q 3=0 then 2 else 1,r,ris i,rgS)]) (nxS zs (nxS zs q))else(l,q)
def aMO(zs:List Int)(r n:Int)(l:List TO)(q:St2):List TO×St2:=uZ zs r n 200 (nxV zs q 9) (l++[(5,0,rgE,rgE)]++[(3,0,rgE,rgE)]) (nxS zs q)
def iX(zs:List Int)(n:Nat)(p1:St2):Nat->List TO×St2
 | 0=>(xP n,p1)
 | j+1=>aMO zs ((j:Int)+1) n (iX zs n p1 j).1 (iX zs n p1 j).2
def aAH(zs:List Int)(p:St2):List TO×St2:=iX zs (60+nxV zs p 140).toNat (nxS zs p) 2
structure DrI(base g:Nat)(a:Option Addr)(c:Nat)(zs:List Int)(w:World)(ov:Value)(l:List TO)(q:St2)(wr:World):Prop where
 own:yO.Own w.heap.size wr ov l
 src:dQ base g a c zs q wr
 ae:Frm (·=g) w wr
section
variable {base g : Nat} {a : Option Addr} {c : Nat} {zs : List Int} {w : World} {ov : Value} {l : List TO} {q : St2} {wr : World}
theorem DrI.next(h:DrI base g a c zs w ov l q wr)(f:g<w.heap.size){q':St2}{wy:World}(d:dQ base g a c zs q' wy)(b:Frm (·=g) wr wy):DrI base g a c zs w ov l q' wy:=
 ⟨h.own.ae b fun r i e=>by omega,d,h.ae.trans b⟩
theorem DrI.bq(h:DrI base g a c zs w ov l q wr){wy:World}(b:Bl wr wy):DrI base g a c zs w ov l q wy:=⟨h.own.below b,h.src.below b,h.ae.trans (Frm.aa b)⟩
theorem DrI.app(h:DrI base g a c zs w ov l q wr)(f:g<w.heap.size){ov':Value}{l':List TO}{wy:World}(e:yO.Own w.heap.size wy ov' l')(d:Frm (fun k=>w.heap.size<=k/\∃cs,IsC wr k cs yO.t) wr wy):DrI base g a c zs w ov' l' q wy:=by
 have j:=h.src.lo;exact⟨e,h.src.ae d (fun q=>by omega) fun b q=>by omega,((h.ae.wide (S':=fun k=>k=g\/w.heap.size<=k) fun k _ q=>.inl q).trans (d.wide fun k _ q=>.inr q.1)).wide fun k i q=>q.elim id fun q=>by omega⟩
end
theorem aAG(zs:List Int)(r n:Int):∀(m:Nat) (i:Int) (l:List TO) (q:St2),(uZ zs r n m i l q).1.length<=l.length+m
 | 0,i,l,q=>by simp[uZ]
 | m+1,i,l,q=>by
  unfold uZ;split
  ·have:=aAG zs r n m (i+5+nxV zs (nxS zs q) 8) (l++[(if nxV zs q 3=0 then 2 else 1,r,ris i,rgS)]) (nxS zs (nxS zs q))
   simp at this;omega
  ·simp only;omega
