package compressor_test

import (
	"radiolink/api"
	"radiolink/check"
	"radiolink/flow"
	"radiolink/format"
	"radiolink/lsb"
	"radiolink/packet"
	"radiolink/serial"
)

// The model follows the chapter sentence by sentence: numbers of a context stand in one place, and a packet goes through the seven steps in one function.

func modelZero(s api.Sending) bool {
	return !s.Active && s.Full == 0 && s.Refresh == 0 && s.Series == 0 && s.Since == 0 && s.Long == 0 &&
		s.Dynamic.Stride == 0 && s.Dynamic.Follow == 0 && len(s.References) == 0
}

func between(x, least, most int) bool { return least <= x && x <= most }

func modelContext(s api.Sending, mode, width int) bool {
	most := width
	if mode == api.ModeReliable {
		most = api.MaxPending
	}
	ok := s.Active && between(s.Full, 0, width) && between(s.Refresh, 0, width) && s.Full*s.Refresh == 0
	ok = ok && between(s.Since, 0, 32) && between(s.Long, 0, 3)
	ok = ok && between(s.Dynamic.Stride, 0, 65535) && between(s.Dynamic.Follow, 0, 1)
	ok = ok && between(len(s.References), 1, most) && between(s.Series, 0, len(s.References))
	if !ok {
		return false
	}
	for _, r := range s.References {
		if !packet.Valid(r) || flow.Static(r) != flow.Static(s.References[0]) {
			return false
		}
	}
	return s.References[0].Kind == api.KindRtp || s.Dynamic == api.Dynamic{}
}

func modelValid(c api.Compressor) bool {
	if !between(c.Mode, 1, 3) || !between(c.Width, 1, 8) || len(c.Contexts) != 16 {
		return false
	}
	flows := map[api.Header]bool{}
	for _, s := range c.Contexts {
		if modelZero(s) {
			continue
		}
		if !modelContext(s, c.Mode, c.Width) {
			return false
		}
		static := flow.Static(s.References[0])
		if flows[static] {
			return false
		}
		flows[static] = true
	}
	return true
}

// understood tells whether k low bits of a value mean it for a reference.
func understood(width, reference, k, value int) bool {
	v, e := lsb.Decode(width, reference, k, value%(1<<k))
	return e == api.OK && v == value
}

func modelPossible(s api.Sending, h api.Header, kind int) bool {
	rtp := h.Kind == api.KindRtp
	bits := map[int]int{api.FormatTiny: 4, api.FormatShort: 5, api.FormatLong: 8}[kind]
	if !rtp && kind == api.FormatLong {
		bits = 16
	}
	if bits == 0 {
		return false
	}
	for _, r := range s.References {
		predicted := flow.Predict(s.Dynamic, r, flow.Number(h))
		predicted.Check = h.Check
		switch {
		case flow.Changed(r, h) != 0, !understood(16, flow.Number(r), bits, flow.Number(h)):
			return false
		case kind == api.FormatTiny && predicted != h:
			return false
		case kind == api.FormatShort && rtp && (predicted.Id != h.Id || !understood(32, r.Time, 16, h.Time)):
			return false
		}
	}
	return true
}

// modelClone returns a copy in memory of its own.
func modelClone(c api.Compressor) api.Compressor {
	contexts := []api.Sending{}
	for _, s := range c.Contexts {
		s.References = append([]api.Header{}, s.References...)
		contexts = append(contexts, s)
	}
	c.Contexts = contexts
	return c
}

func modelIndex(c api.Compressor, h api.Header) int {
	free := -1
	for i := 15; i >= 0; i-- {
		s := c.Contexts[i]
		if s.Active && flow.Static(s.References[0]) == flow.Static(h) {
			return i
		}
		if !s.Active {
			free = i
		}
	}
	return free
}

func modelRaw(c api.Compressor, b []byte) (api.Compressor, []byte, api.Errno) {
	return modelClone(c), append([]byte{0xd2}, b...), api.OK
}

func modelCompress(c api.Compressor, b []byte) (api.Compressor, []byte, api.Errno) {
	if !modelValid(c) {
		return api.Compressor{}, nil, api.ErrInvalid
	}
	if !between(len(b), 1, 1500) {
		return api.Compressor{}, nil, api.ErrSize
	}
	h, payload, e := packet.Parse(b)
	if e != api.OK {
		return modelRaw(c, b)
	}
	at := modelIndex(c, h)
	if at < 0 {
		return modelRaw(c, b)
	}
	next := modelClone(c)
	s := &next.Contexts[at]
	if s.Active && c.Mode == api.ModeReliable {
		if ahead := serial.Signed(16, flow.Number(s.References[len(s.References)-1]), flow.Number(h)); !between(ahead, 1, 255) {
			return modelRaw(c, b)
		}
	}
	small := modelSteps(c, s, h)
	small.Context, small.Payload = at, payload
	out, e := format.Encode(small)
	return next, out, e
}

// modelSteps does what the seven steps say.
func modelSteps(c api.Compressor, s *api.Sending, h api.Header) api.Small {
	var last *api.Header
	if s.Active {
		r := s.References[len(s.References)-1]
		last = &r
	}
	begins := !s.Active
	if !s.Active {
		*s = api.Sending{Active: true, Full: c.Width}
	}
	learnt := api.Dynamic{}
	if last != nil {
		learnt = flow.Learn(*last, h)
	}
	begins = begins || (s.Full > 0 || s.Refresh > 0) && s.Series == len(s.References)
	if last != nil && (flow.Changed(*last, h) != 0 || s.Long == 3 && learnt != s.Dynamic) { // 1.
		if s.Full > 0 {
			s.Full = c.Width
		} else {
			s.Refresh, s.Long = c.Width, 0
		}
		begins = true
	}
	if c.Mode == api.ModeOneWay && s.Since == 32 && s.Full == 0 { // 2.
		s.Full, s.Refresh, begins = c.Width, 0, true
	}
	if c.Mode == api.ModeReliable && len(s.References) == 32 { // 3.
		s.Full, s.Refresh, begins, s.References = c.Width, 0, true, []api.Header{}
	}
	if begins { // 4.
		s.Series, s.Dynamic = len(s.References), learnt
	}
	kind := 0
	switch { // 5.
	case s.Full > 0:
		kind = api.FormatFull
	case s.Refresh > 0:
		kind = api.FormatRefresh
	case modelPossible(*s, h, api.FormatTiny):
		kind = api.FormatTiny
	case modelPossible(*s, h, api.FormatShort):
		kind = api.FormatShort
	case modelPossible(*s, h, api.FormatLong):
		kind = api.FormatLong
	default:
		kind = api.FormatRefresh
		s.Refresh, s.Long, s.Series, s.Dynamic = c.Width, 0, len(s.References), learnt
	}
	small := modelSmall(kind, h, s.Dynamic)
	modelCount(c, s, h, kind)
	return small
}

// modelCount does the last two steps.
func modelCount(c api.Compressor, s *api.Sending, h api.Header, kind int) {
	if c.Mode != api.ModeReliable && kind == api.FormatFull { // 6.
		s.Full--
	}
	if c.Mode != api.ModeReliable && kind == api.FormatRefresh {
		s.Refresh--
	}
	if kind == api.FormatFull {
		s.Since = 0
	} else if s.Since < 32 {
		s.Since++
	}
	if h.Kind == api.KindUdp || kind != api.FormatShort && kind != api.FormatLong {
		s.Long = 0
	} else if s.Long < 3 {
		s.Long++
	}
	s.References = append(s.References, h) // 7.
	for c.Mode != api.ModeReliable && len(s.References) > c.Width {
		s.References = s.References[1:]
		if s.Series > 0 {
			s.Series--
		}
	}
}

func modelSmall(kind int, h api.Header, d api.Dynamic) api.Small {
	rtp := h.Kind == api.KindRtp
	sum := func(width int) int {
		x, _ := check.Sum(width, packet.Head(h))
		return x
	}
	bare := api.Header{Kind: h.Kind}
	number := flow.Number(h)
	switch {
	case kind == api.FormatTiny:
		return api.Small{Format: kind, Header: bare, Number: number % 16, Udp: h.Check, Check: sum(3)}
	case kind == api.FormatShort && rtp:
		return api.Small{Format: kind, Header: bare, Number: number % 32, Marker: h.Marker, Time: h.Time % 65536, Udp: h.Check, Check: sum(7)}
	case kind == api.FormatShort:
		return api.Small{Format: kind, Header: bare, Number: number % 32, Udp: h.Check, Check: sum(7)}
	case kind == api.FormatLong && rtp:
		return api.Small{Format: kind, Header: bare, Number: number % 256, Marker: h.Marker, Time: h.Time, Id: h.Id, Udp: h.Check, Check: sum(8)}
	case kind == api.FormatLong:
		return api.Small{Format: kind, Header: bare, Number: number, Udp: h.Check, Check: sum(8)}
	case kind == api.FormatFull:
		return api.Small{Format: kind, Header: h, Dynamic: d, Check: sum(8)}
	}
	dynamic := h
	dynamic.From, dynamic.To, dynamic.FromPort, dynamic.ToPort, dynamic.Source = 0, 0, 0, 0, 0
	return api.Small{Format: kind, Header: dynamic, Dynamic: d, Check: sum(8)}
}
