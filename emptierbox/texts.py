"""Shares, loads, stands, rules, spreads, joint spreads and nets as texts."""

from emptierbox.figures import show_number


def show_share(a):
    """Tell a share's text."""
    top, bottom = a
    if bottom == 1:
        return show_number(top)
    return show_number(top) + "/" + show_number(bottom)


def show_load(load):
    """Tell a load's or a stand's text."""
    return " ".join([show_number(number) for number in load])


def show_rule(rule):
    """Tell a rule's text."""
    return " ".join([show_share(chance) for chance in rule])


def show_spread(spread):
    """Tell a spread's text, a line for each load."""
    return "\n".join([f"{show_load(load)} : {show_share(part)}" for load, part in spread])


def show_joint(joint):
    """Tell a joint spread's text, a line for each pair of loads."""
    return "\n".join([f"{show_load(one)} | {show_load(other)} : {show_share(part)}" for one, other, part in joint])


def show_net(net):
    """Tell a net's text."""
    boxes, pairs, ties = net
    return f"{show_number(boxes)} {ties} : " + " ".join([f"{show_number(a)}-{show_number(b)}" for a, b in pairs])
