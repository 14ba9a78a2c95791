package infer

import "cspcheck/api"

// declarations infers the types of the Datas, Nametypes and Channels. The types of their symbols are open in the whole program.
func (x *program) declarations() {
	for k, s := range x.symbols {
		switch s.Kind {
		case api.SymCon, api.SymChannel, api.SymNametype:
			x.open = append(x.open, k)
		}
	}
	x.declaring = true
	for _, d := range x.Kids(0) {
		switch x.Nodes[d].Op {
		case api.OpData:
			for _, con := range x.Kids(d) {
				x.sets(x.Kids(con))
			}
		case api.OpNametype:
			x.nametype(d)
		case api.OpChannel:
			_, parts := x.channel(d)
			x.sets(parts)
		default:
			continue
		}
		x.dismiss()
	}
	x.declaring = false
	x.forgetGround(0)
}

// sets infers the types of Fields or of the parts of a Channel.
func (x *program) sets(fields []int) {
	for _, f := range fields {
		element := x.elements[f]
		x.require(f, x.expression(f), set(element))
		x.need(f, element, api.ClassSet)
	}
}

func (x *program) nametype(i int) {
	t := x.schemes[x.Nodes[i].Int].typ
	element := x.fresh()
	x.require(i, t, x.expression(i+1))
	x.require(i, t, set(element))
	x.need(i, element, api.ClassSet)
}

// assertions infers the types of the assertions.
func (x *program) assertions() {
	for _, d := range x.Kids(0) {
		switch x.Nodes[d].Op {
		case api.OpRefine, api.OpCheck, api.OpTrace:
			x.operator(d)
			x.dismiss()
		}
	}
}
