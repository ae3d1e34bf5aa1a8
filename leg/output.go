package leg

import (
	"slices"

	"pendentive/api"
	"pendentive/frame"
	"pendentive/mask"
	"pendentive/ring"
)

// The next draw is the last one so many times, and so many more.
const (
	drawTimes = 1664525
	drawMore  = 1013904223
)

// output is a ring, and what waits behind it.
type output struct {
	*ring.Ring
	tail     []byte      // of one frame
	controls []api.Frame // go ahead of the rest
	rest     []api.Frame // of one message
	masked   bool        // whether they go out so
	draw     uint32      // the last one
}

// Take takes the ring's first bytes, and lets others move on.
func (o *output) Take(n int) []byte {
	out := o.Ring.Take(n)
	o.move()
	return out
}

// send makes a message's frames the rest.
func (o *output) send(frames []api.Frame) {
	o.rest = frames
	o.move()
}

// control puts a control frame behind all others.
func (o *output) control(op int, data string) {
	o.controls = append(o.controls, api.Frame{Fin: true, Op: op, Data: data})
	o.move()
}

// pong puts one there, or, if one waits already, lets that one have the data.
func (o *output) pong(data string) {
	waits := func(f api.Frame) bool { return f.Op == api.OpPong }
	if i := slices.IndexFunc(o.controls, waits); i >= 0 {
		o.controls[i].Data = data
		return
	}
	o.control(api.OpPong, data)
}

// end puts an end there.
func (o *output) end(data string) {
	o.rest = nil // what is left of a message would go out behind the end
	o.control(api.OpClose, data)
}

// empty is whether nothing is there. What waits moves on as soon as there is room, so that behind an empty ring nothing waits.
func (o *output) empty() bool { return o.Len() == 0 }

// move lets as much move on as there is room for.
func (o *output) move() {
	for {
		o.tail = o.tail[o.Put(o.tail):]
		if len(o.tail) > 0 {
			return
		}
		f, is := o.next()
		if !is {
			o.tail = nil // an empty piece would keep the bytes that went ahead of it
			return
		}
		o.tail = o.bytes(f)
	}
}

// next takes the frame that goes out next; false: there is none.
func (o *output) next() (api.Frame, bool) {
	from := &o.rest
	if len(o.controls) > 0 {
		from = &o.controls
	}
	if len(*from) == 0 {
		return api.Frame{}, false
	}
	f := (*from)[0]
	(*from)[0] = api.Frame{} // else its Data would be kept till the last frame goes
	*from = (*from)[1:]
	if len(*from) == 0 {
		*from = nil // an empty piece would keep all places
	}
	return f, true
}

// bytes is a frame as it goes out: masked by a draw of its own, if it must be.
func (o *output) bytes(f api.Frame) []byte {
	if o.masked {
		o.draw = o.draw*drawTimes + drawMore
		f.Masked, f.Key = true, mask.Key(o.draw)
	}
	b, _ := frame.Put(f) // all frames that are put here may be
	return b
}
