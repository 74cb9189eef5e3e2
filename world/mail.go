package world

import "hackamore/api"

// Ready returns the actors that have mail, ascending.
func (w *World) Ready() []int {
	if w == nil {
		return nil
	}
	var l []int
	for i, a := range w.state.Actors {
		if len(a.Mail) > 0 {
			l = append(l, i)
		}
	}
	return l
}

// Choose returns the actor that a number of a script chooses.
func (w *World) Choose(choice int) (int, bool) {
	l := w.Ready()
	n := len(l)
	if n == 0 {
		return 0, false
	}
	return l[(choice%n+n)%n], true
}

// Take takes the oldest message of an actor.
func (w *World) Take(actor int) (api.Message, api.Errno) {
	if w == nil {
		return api.Message{}, api.ErrArg
	}
	if !w.hasActor(actor) || len(w.state.Actors[actor].Mail) == 0 {
		return api.Message{}, api.ErrNone
	}
	a := &w.state.Actors[actor]
	m := a.Mail[0]
	a.Mail = a.Mail[1:]
	return m, api.OK
}

// waiting returns how many messages are in all mail.
func (w *World) waiting() int {
	n := 0
	for _, a := range w.state.Actors {
		n += len(a.Mail)
	}
	return n
}

// deliver puts a message that is right into the mail of its receiver.
func (w *World) deliver(m api.Message) {
	a := &w.state.Actors[m.To]
	a.Mail = append(a.Mail, copiedMessage(m))
}

// Send puts a message into the mail of its receiver.
func (w *World) Send(m api.Message) api.Errno {
	switch {
	case w == nil:
		return api.ErrArg
	case !w.hasActor(m.To), !w.isSender(m.From):
		return api.ErrNone
	case len(m.Name) > api.MaxName:
		return api.ErrSize
	case !w.areThere(m.Args):
		return ErrBroken
	}
	var texts []string
	for _, v := range m.Args {
		s, e := w.Show(v)
		if e != api.OK {
			return e
		}
		texts = append(texts, s)
	}
	if w.waiting() >= api.MaxMail || len(w.state.Trace) >= api.MaxFuel {
		return api.ErrFull
	}
	w.deliver(m)
	w.state.Trace = append(w.state.Trace, api.Send{From: m.From, To: m.To, Name: m.Name, Args: texts})
	return api.OK
}

// Spawn makes an actor.
func (w *World) Spawn(typ string) (api.Value, api.Errno) {
	if w == nil {
		return api.Value{}, api.ErrArg
	}
	e, ok := w.entityOf(api.Actor, typ)
	if !ok {
		return api.Value{}, ErrMethod
	}
	n := len(w.state.Actors)
	if n >= api.MaxActors {
		return api.Value{}, api.ErrFull
	}
	w.state.Actors = append(w.state.Actors, Actor{Type: typ, Fields: make([]api.Value, len(e.Fields))})
	return api.Value{Kind: api.ValActor, Lo: uint64(n)}, api.OK
}
