import Derived.Test.YtieobflhfcgliaaGreatJDzE
namespace Go.Proofs.YtieobflhfcgliaaGreat
open Go.RowKit
set_option linter.unusedVariables false
theorem soa_ok{ps:List Zp}{o:ByteArray}(hz:zOK ps o=true):∃ (s:Sz) (ds:List ByteArray),fndZ (ps.map (·.1)) o 6=some s∧s.da=(soaOf ps).da::ds∧rvA (soaOf ps)=.agg #[.string s.own,.int .i64 s.ty,.int .i64 1,.int .i64 s.tt,.string (soaOf ps).da]∧s∈ps.map (·.1):=by
 obtain⟨al,ha⟩:=name_ofZ hz;obtain⟨r,k,s,ds,f1,-,-,-,f2,f3,f4,-,f5⟩:=zOK_soaR hz ha;have e:soaOf ps=r:=by rw [soaOf,f1];rfl
 have a1:r.own=s.own:=congrArg Rr.own f4;have a2:r.ty=s.ty:=congrArg Rr.ty f4;have a3:r.cl=1:=congrArg Rr.cl f4;have a4:r.tt=s.tt:=congrArg Rr.tt f4;rw [e];refine⟨s,ds,f2,f3,?_,f5⟩;show Value.agg #[.string r.own,.int .i64 r.ty,.int .i64 r.cl,.int .i64 r.tt,.string r.da]=_
 rw [a1,a2,a3,a4]
def FitZ(ps:List Zp):Prop:=∀ p∈ps,p.1.own.size<=1048576∧p.1.da.length<=1048576∧∀ x∈p.1.da,x.size<=1048576
theorem l11Soa_ok(o:ByteArray)(v:Value)(ps:List Zp)(w:World)(h:ZRow w v ps)(hl:ps.length<=1048576)(hF:FitZ ps)(ho:o.size<=maxLen)(hz:zOK ps o=true):
 Calls Tryz.prog 24 #[.agg #[.string o,v]] w fun e w'=>e=.returned (rvA (soaOf ps))∧Below w.heap.size w w':=by
 obtain⟨s,ds,f1,f2,f3,f4⟩:=soa_ok hz;obtain⟨p,hp,ep⟩:=List.mem_map.1 f4;rw [f3];exact l11Soa_any o v ps s _ ds w h hl (fun p hp=>⟨(hF p hp).1,(hF p hp).2.1⟩) ho f1 f2 (by rw [<- ep];exact(hF p hp).2.1)
end Go.Proofs.YtieobflhfcgliaaGreat
