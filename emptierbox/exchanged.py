"""Nets and stands whose boxes have exchanged their names."""


def exchanged_net(net, order):
    """Tell the net in which each box a has become the box order[a]."""
    boxes, pairs, ties = net
    return (boxes, tuple([(order[a], order[b]) for a, b in pairs]), ties)


def exchanged_stand(stand, order):
    """Tell the stand that holds at order[a] what the old one held at a."""
    return tuple([stand[order.index(box)] for box in range(len(stand))])
